"""[27]: what stands in which file, and the errors."""

import importlib
import inspect
import unittest

from movedchest import desk, errors
from tests.calls import CALLS

ERRORS = {
    "NoLink": (LookupError, {"link": 6}),
    "NothingDone": (LookupError, {}),
    "BadText": (ValueError, {"line": 3}),
    "CanNot": (ValueError, {}),
    "TooMany": (ValueError, {}),
    "Unfit": (ValueError, {}),
}


# The methods of Desk with the names of their arguments.
DESK = {
    "__init__": ["chest"], "say": ["text"], "chest": [], "stand": [], "row": [], "undo": [], "redo": [], "twin": [],
    "__eq__": ["other"],
}


class Interface(unittest.TestCase):
    def test_each_function_is_defined_in_its_file(self):
        for module, functions in CALLS.items():
            own = importlib.import_module("movedchest." + module)
            for name in functions:
                self.assertEqual(getattr(own, name).__module__, own.__name__)

    def test_the_class_desk(self):
        self.assertEqual(desk.Desk.__module__, "movedchest.desk")
        for name, arguments in DESK.items():
            # In the class itself, not in a base class.
            own = list(inspect.signature(vars(desk.Desk)[name]).parameters.values())[1:]
            self.assertEqual([argument.name for argument in own], arguments)
            for argument in own:
                self.assertEqual((argument.kind, argument.default), (argument.POSITIONAL_OR_KEYWORD, argument.empty))

    def test_errors(self):
        for name, (base, kept) in ERRORS.items():
            own = getattr(errors, name)
            self.assertEqual(own.__bases__, (base,))
            self.assertEqual(own.__module__, "movedchest.errors")
            self.assertEqual(vars(own(*kept.values())), kept)
            self.assertEqual(vars(own(**kept)), kept)

    def test_the_package_imports_nothing_by_itself(self):
        package = importlib.import_module("movedchest")
        with open(package.__file__, encoding="utf-8") as source:
            self.assertNotIn("import", source.read())


if __name__ == "__main__":
    unittest.main()
