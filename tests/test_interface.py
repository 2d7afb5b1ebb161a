"""The interface: all that it lists is there under its name, with its arguments."""

import importlib
import inspect
import pathlib
import unittest

import bendtables

# For each module its functions with how many arguments they take.
FUNCTIONS = {
    "tables": {"is_table": 1, "size_of": 1, "is_full": 1, "is_stepped": 1, "stretches_of": 1, "laid_over": 1},
    "rules": {"is_rule": 1, "rule_size": 1, "entry": 3, "table_by": 1}, "texts": {"show_table": 1, "read_table": 1},
    "bending": {"bends": 1, "crook_of": 1, "slacks": 1, "short_of": 1}, "bendpapers": {"bend_paper": 1}, "bendchecks": {"bend_paper_holds": 2},
    "leasts": {"least_places": 2}, "looking": {"least_by": 3}, "placechecks": {"places_holds": 4}, "joining": {"bends_up": 1, "joined": 2},
    "undoing": {"undone": 2}, "joinchecks": {"joined_holds": 3}, "products": {"product": 2, "mids": 2}, "powers": {"power": 2, "first_way": 4},
    "productchecks": {"product_holds": 3, "way_holds": 5}, "plans": {"planned": 2, "cuts_by": 1}, "counted": {"planned_in": 3, "worths_by_count": 2},
    "planchecks": {"plan_holds": 3}, "webs": {"is_web": 1, "web_table": 1, "web_way": 3}, "webmaking": {"web_of": 1}, "going": {"stays_of": 1},
    "gonechecks": {"stays_holds": 2}, "mending": {"mended": 1}, "mendchecks": {"mended_holds": 2, "shown_by": 2},
    "otherway": {"bend_of": 1, "turned": 1, "negated": 1, "greatest_places": 2}, "findings": {"finding_holds": 1},
}
# For each class its module, how many arguments it is made with, and its methods with theirs.
CLASSES = {
    "Kept": ("kept", 1, {"put_row": 2, "put_column": 2, "take_row": 1, "take_column": 1, "table": 0, "slacks": 0, "least": 0, "gone": 0}),
    "Stand": ("stands", 0, {"tell": 2, "retell": 2, "drop": 1, "back": 1, "deeds": 0, "names": 0, "table": 1, "made": 1, "times": 1}),
    "Desk": ("desk", 0, {"say": 1}),
}


def many_arguments(function):
    return len(inspect.signature(function).parameters)


class InterfaceTest(unittest.TestCase):
    def test_functions(self):
        for name, functions in FUNCTIONS.items():
            module = importlib.import_module("bendtables." + name)
            for function, many in functions.items():
                self.assertEqual(many_arguments(getattr(module, function)), many, function)

    def test_classes_have_their_methods_themselves(self):
        for name, (module, many, methods) in CLASSES.items():
            made = getattr(importlib.import_module("bendtables." + module), name)
            self.assertEqual(many_arguments(made), many)
            for method, given in methods.items():
                self.assertIn(method, vars(made))
                self.assertEqual(many_arguments(vars(made)[method]), given + 1, method)

    def test_the_folder_has_nothing_but_its_files(self):
        folder = pathlib.Path(bendtables.__file__).resolve().parent
        others = [path.name for path in folder.iterdir() if path.suffix != ".py" and path.name != "__pycache__"]
        self.assertEqual(others, [])


if __name__ == "__main__":
    unittest.main()
