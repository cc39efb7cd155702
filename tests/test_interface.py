import importlib
import inspect
import unittest

# How many arguments each name takes, by the module from which it is imported.
NAMES = {
    "values": {"is_value": 1, "is_state": 2},
    "manners": {"is_manner": 1, "places_of": 1},
    "boxes": {"first_boxes": 1},
    "deeds": {"is_deed": 3},
    "jobs": {"is_jobs": 2, "next_deed": 3, "answer_of": 3},
    "asking": {"next_step": 5},
    "rooms": {"begun": 2, "may_step": 3, "stepped": 4, "state_of": 2, "walked": 3},
    "stories": {"story": 3, "stood": 3},
    "moments": {"moments": 3},
    "stories_told": {"is_story": 2},
    "orders": {"ordered": 2},
    "orderlooks": {"shows_order": 3, "shows_none": 3},
    "bounds": {"most_steps": 2},
    "fitting": {"fit": 3},
    "books": {"book": 3},
    "booklooks": {"shows_book": 3, "shows_break": 3},
    "rightness": {"is_right": 1},
    "breaking": {"breaking": 1},
    "hidden": {"hidden": 1},
    "showing": {"show_case": 3},
    "reading": {"read_case": 1},
    "desk": {"Desk": 1},
    "errors": {"NoStep": 1, "NoEnd": 1, "NoText": 1, "NoLine": 0},
}


class TestInterface(unittest.TestCase):
    def test_each_name_is_there_and_takes_its_arguments(self):
        for module, names in NAMES.items():
            found = importlib.import_module("wholeglance." + module)
            for name, count in names.items():
                given = inspect.signature(getattr(found, name)).parameters.values()
                self.assertEqual(len(given), count, name)
                for argument in given:
                    self.assertIn(argument.kind, (argument.POSITIONAL_ONLY, argument.POSITIONAL_OR_KEYWORD))

    def test_a_desk_is_said_a_line(self):
        desk = importlib.import_module("wholeglance.desk").Desk("manner once 1\nhand deeds\nweave")
        self.assertEqual(len(inspect.signature(desk.say).parameters), 1)

    def test_each_module_is_imported_alone(self):
        for module in NAMES:
            self.assertTrue(importlib.import_module("wholeglance." + module).__doc__)
