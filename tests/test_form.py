"""The form of the code, as far as a test can see it, and the names of the interface."""

import ast
import importlib
import inspect
import pathlib
import unittest

PACKAGE = pathlib.Path(__file__).resolve().parent.parent / "lastcoffer"
LIBRARY = {"math": {"gcd", "lcm"}}
INTERFACE = {
    "errors": {"CofferError": None, "BadSpread": None, "BadHouse": None, "OutOfRange": None, "TooLong": None,
               "BadCommand": None},
    "chances": {"fraction": ["top", "low"], "plus": ["first", "second"], "minus": ["first", "second"],
                "times": ["first", "second"], "over": ["first", "second"], "is_less": ["first", "second"],
                "check_spread": ["spread"], "gathered": ["items"], "mean": ["spread"],
                "chance_of": ["spread", "value"], "sum_of": ["first", "second"], "mixed": ["spreads", "chances"],
                "shifted": ["spread", "places"]},
    "damages": {"check_damage": ["spread"], "check_treaty": ["treaty"], "remaining": ["treaty", "amount"],
                "after_treaty": ["treaty", "spread"]},
    "houses": {"check_house": ["house"], "total_damage": ["house", "weather"],
               "change_of": ["house", "weather", "treaty"]},
    "spans": {"least_ruin": ["house", "state", "years"], "best_treaty": ["house", "state", "years"],
              "check_plan": ["house", "plan"], "chosen": ["plan", "state"],
              "plan_ruin": ["house", "plan", "state", "years"], "outlook": ["house", "plan", "state", "years"]},
    "tables": {"check_table": ["house", "table"], "value_at": ["table", "reserve", "weather"],
               "mean_after": ["house", "table", "state", "treaty"], "is_upper": ["house", "paper"],
               "is_lower": ["house", "paper"]},
    "finders": {"weight": ["spread", "q"], "tail": ["house", "treaties", "q"],
                "find_upper": ["house", "treaties", "*size", "*q", "*grain", "*rounds"],
                "find_lower": ["house", "*discount", "*size", "*q", "*grain", "*rounds"],
                "better_plan": ["house", "paper"]},
    "exact": {"is_certain": ["spread"], "exact_ruin": ["spread", "reserve"], "least_reserve": ["spread", "bound"]},
    "barriers": {"yields": ["house", "plan", "barrier"], "best_barrier": ["house", "plan", "state", "most"]},
    "desk": {"Desk": None},
}
METHODS = {("desk", "Desk", "ask"): ["self", "command"], ("desk", "Desk", "__init__"): ["self", "house"]}


def sources():
    return sorted(PACKAGE.rglob("*.py"))


def trees():
    return [(path, ast.parse(path.read_text("utf-8"))) for path in sources()]


def parameters(act):
    """Return the names of the parameters, with a star before those that are passed by keyword."""
    return [("*" if one.kind is one.KEYWORD_ONLY else "") + one.name for one in inspect.signature(act).parameters.values()]


class Form(unittest.TestCase):
    def test_the_folder_holds_only_sources(self):
        others = [path for path in PACKAGE.rglob("*") if path.suffix != ".py" and "__pycache__" not in path.parts]
        self.assertEqual(others, [])
        self.assertIn(PACKAGE / "__init__.py", sources())

    def test_lines_and_characters(self):
        for path in sources():
            lines = path.read_text("utf-8").split("\n")
            self.assertLessEqual(len(lines), 400, path)
            for line in lines:
                self.assertLessEqual(len(line), 120, path)
                self.assertTrue(all(" " <= sign <= "~" for sign in line), (path, line))

    def test_functions_are_small(self):
        for path, tree in trees():
            for node in ast.walk(tree):
                if isinstance(node, ast.FunctionDef):
                    self.assertLessEqual(node.end_lineno - node.lineno + 1, 40, (path, node.name))

    def test_imports(self):
        for path, tree in trees():
            for node in ast.walk(tree):
                self.assertNotIsInstance(node, ast.Import, path)
                if isinstance(node, ast.ImportFrom):
                    self.assertEqual(node.level, 0, path)
                    names = {name.name for name in node.names}
                    allowed = node.module.startswith("lastcoffer.") or names <= LIBRARY.get(node.module, set())
                    self.assertTrue(allowed, (path, node.module, names))

    def test_no_floats_and_no_true_division(self):
        for path, tree in trees():
            for node in ast.walk(tree):
                self.assertNotIsInstance(node, ast.Div, path)
                if isinstance(node, ast.Constant):
                    self.assertNotIsInstance(node.value, (float, complex), path)


class Interface(unittest.TestCase):
    def test_names_and_arguments(self):
        for module, names in INTERFACE.items():
            for name, arguments in names.items():
                held = getattr(importlib.import_module("lastcoffer." + module), name)
                self.assertEqual(held.__module__, "lastcoffer." + module)
                if arguments is None:
                    self.assertTrue(inspect.isclass(held))
                else:
                    self.assertEqual(parameters(held), arguments)

    def test_methods_stand_in_their_classes(self):
        for (module, name, method), arguments in METHODS.items():
            held = getattr(importlib.import_module("lastcoffer." + module), name)
            self.assertEqual(parameters(vars(held)[method]), arguments)
