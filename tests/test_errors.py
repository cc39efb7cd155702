import unittest

from wholeglance.errors import GlanceError, NoEnd, NoLine, NoStep, NoText

WITH_VALUE = {NoStep: "place", NoEnd: "hand", NoText: "row"}
REFUSALS = (NoStep, NoEnd, NoText, NoLine)


def made(kind, value=3):
    return kind() if kind is NoLine else kind(value)


class TestErrors(unittest.TestCase):
    def test_bases(self):
        self.assertEqual(GlanceError.__bases__, (ValueError,))
        for kind in REFUSALS:
            self.assertEqual(kind.__bases__, (GlanceError,))

    def test_values(self):
        for kind, name in WITH_VALUE.items():
            for value in (0, 1, 17):
                self.assertEqual(getattr(kind(value), name), value)

    def test_no_line_is_made_without_anything(self):
        self.assertIsInstance(NoLine(), GlanceError)
        with self.assertRaises(TypeError):
            NoLine(1)

    def test_caught_as_glance_error_and_value_error(self):
        for kind in REFUSALS:
            for caught in (kind, GlanceError, ValueError):
                try:
                    raise made(kind)
                except caught as error:
                    self.assertIs(type(error), kind)

    def test_caught_as_none_of_the_others(self):
        for kind in REFUSALS:
            for other in REFUSALS:
                if other is not kind:
                    with self.assertRaises(kind):
                        try:
                            raise made(kind)
                        except other:
                            self.fail("taken as another refusal")
            with self.assertRaises(kind):
                try:
                    raise made(kind)
                except LookupError:
                    self.fail("taken as another error")
