"""Every example of the document, as it is printed there."""

import doctest
import importlib
import pathlib
import unittest

FOLDER = pathlib.Path(__file__).parent / "examples"
PACKAGE = pathlib.Path(__file__).parent.parent / "movedchest"
ERRORS = (LookupError, ValueError)


def read_examples(path):
    """The list of the pairs (line to run, line that it gives or None)."""
    found = []
    for line in path.read_text().splitlines():
        if line.startswith(">>> "):
            found.append((line[4:], None))
        else:
            found[-1] = (found[-1][0], line)
    return found


def names_of_package():
    names = {}
    for path in sorted(PACKAGE.glob("[a-z]*.py")):
        module = importlib.import_module("movedchest." + path.stem)
        for name, value in vars(module).items():
            if getattr(value, "__module__", None) == module.__name__:
                names[name] = value
    return names


def shown(line, names):
    """What the document prints for this line."""
    try:
        return repr(eval(line, names))
    except ERRORS as error:
        kept = ", ".join(f"{name}={value!r}" for name, value in vars(error).items())
        return f"raises {error.__class__.__name__}({kept})"


class Examples(unittest.TestCase):
    def test_all_sections_in_order(self):
        # Names are those of the nearest example ahead that sets them, also in another section.
        names = names_of_package()
        ran = 0
        for path in sorted(FOLDER.glob("section_*.txt")):
            for line, expected in read_examples(path):
                with self.subTest(section=path.stem, line=line):
                    ran += 1
                    if expected is None:
                        exec(line, names)
                    else:
                        self.assertEqual(shown(line, names), expected)
        self.assertGreater(ran, 0)

    def test_readme(self):
        readme = pathlib.Path(__file__).parent.parent / "README.md"
        failed, tried = doctest.testfile(str(readme), module_relative=False)
        self.assertEqual(failed, 0)
        self.assertGreater(tried, 0)


if __name__ == "__main__":
    unittest.main()
