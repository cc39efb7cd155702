import ast
import unittest
from pathlib import Path

from tests.language import drawn_from, faults, goes_round

PACKAGE = Path(__file__).resolve().parent.parent / "wholeglance"


def files():
    return {path.name: path.read_text(encoding="utf-8") for path in sorted(PACKAGE.glob("*.py"))}


class TestPackage(unittest.TestCase):
    def test_nothing_but_files_of_python(self):
        others = [path.name for path in PACKAGE.iterdir() if path.suffix != ".py" and path.name != "__pycache__"]
        self.assertEqual(others, [])
        self.assertIn("__init__.py", files())

    def test_each_file_keeps_to_the_rules(self):
        for name, text in files().items():
            self.assertEqual(faults(name, text), [], name)

    def test_names_drawn_stand_in_the_very_file(self):
        texts = files()
        for name, text in texts.items():
            for node in ast.parse(text).body:
                if isinstance(node, ast.ImportFrom):
                    target = ast.parse(texts[node.module.split(".")[-1] + ".py"])
                    defined = {part.name for part in target.body if isinstance(part, (ast.FunctionDef, ast.ClassDef))}
                    defined |= {part.targets[0].id for part in target.body if isinstance(part, ast.Assign)}
                    used = {part.id for part in ast.walk(ast.parse(text)) if isinstance(part, ast.Name)}
                    for drawn in node.names:
                        self.assertIn(drawn.name, defined, name)
                        self.assertIn(drawn.name, used, name)

    def test_no_two_files_draw_from_one_another(self):
        self.assertFalse(goes_round({name[:-3]: drawn_from(text) for name, text in files().items()}))


class TestRules(unittest.TestCase):
    def test_what_is_outside_is_found(self):
        outside = {
            "L2": "import sys\n", "L3": "x = 1\nprint(x)\n", "L4": "def f(*a):\n    return a\n",
            "L5": "class A:\n    x = 1\n", "L6": "def f(x):\n    del x[0]\n", "L7": "def f(x):\n    return x / 2\n",
            "L8": "def f(x):\n    return round(x)\n", "L10": "def f(x):\n" + "    x += 1\n" * 40,
            "L12": "def f(_x):\n    return 1\n", "L14": "# \u00e9\n", "L15": "def f(max):\n    return max\n",
            "L17": "# the type\n", "L19": "def f(x):\n    try:\n        g(x)\n    except TypeError:\n        pass\n",
            "L20": "def f(x):\n    return x is 3\n", "L21": "def f(x: int):\n    return x\n",
            "L22": "def f(x):\n    return g(len)\n", "L23": "def f(x):\n    y = range(x)\n    return y\n",
            "L24": "def f(x):\n    y = set(x)\n    return y\n", "L25": "def f(x):\n    return x.sort()\n",
            "L27": "def f(x):\n    return 2 ** x\n", "L28": "def f(x):\n    return x.__init__\n",
        }
        for rule, text in outside.items():
            rules = {found for found, row in faults("plain.py", text)}
            self.assertTrue(rule in rules or (rule == "L2" and "L6" in rules), (rule, rules))

    def test_file_names(self):
        for name in ("range.py", "test_x.py", "tests.py", "Values.py", "enum.py"):
            self.assertTrue(faults(name, ""), name)

    def test_files_that_go_round(self):
        self.assertTrue(goes_round({"a": ["b"], "b": ["c"], "c": ["a"]}))
        self.assertFalse(goes_round({"a": ["b", "c"], "b": ["c"], "c": []}))


if __name__ == "__main__":
    unittest.main()
