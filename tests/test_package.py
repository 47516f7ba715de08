"""The package as a whole: what the interface lists and where, and that nothing else is reached for."""

import ast
import importlib
import inspect
import unittest
from pathlib import Path

import manytimes

HOME = Path(manytimes.__file__).parent

INTERFACE = {
    "errors": {"TimesError": None, "BadPair": None, "BadPairs": None, "BadTaking": None, "BadRow": None},
    "pairs": {"most": ["pair"], "worth": ["pair"], "taken": ["pair", "times"]},
    "quotients": {
        "quotients": ["pair"], "pair_of": ["row", "common"], "shortest": ["pair"], "longest": ["pair"],
    },
    "answers": {"Answer": None, "Lost": [], "Won": ["at", "times"]},
    "playing": {"told": ["pairs"]},
}


class PackageTest(unittest.TestCase):
    def test_each_name_is_defined_in_its_file(self):
        for file, names in INTERFACE.items():
            tree = ast.parse((HOME / f"{file}.py").read_text())
            defined = [node.name for node in tree.body if isinstance(node, (ast.FunctionDef, ast.ClassDef))]
            for name in names:
                self.assertIn(name, defined)

    def test_arguments_of_each_name(self):
        for file, names in INTERFACE.items():
            module = importlib.import_module(f"manytimes.{file}")
            for name, arguments in names.items():
                if arguments is not None:
                    self.assertEqual(list(inspect.signature(getattr(module, name)).parameters), arguments, name)

    def test_shows_takes_pairs(self):
        answers = importlib.import_module("manytimes.answers")
        for kind in (answers.Lost, answers.Won):
            self.assertEqual(list(inspect.signature(kind.shows).parameters), ["self", "pairs"])

    def test_no_clock_chance_or_file_is_reached_for(self):
        for file in HOME.glob("*.py"):
            for node in ast.walk(ast.parse(file.read_text())):
                self.assertNotIsInstance(node, ast.Import, file.name)
                if isinstance(node, ast.ImportFrom):
                    self.assertTrue(node.module.startswith("manytimes."), (file.name, node.module))
                if isinstance(node, ast.Name):
                    self.assertNotIn(node.id, ("open", "input", "print", "exec", "eval", "__import__"), file.name)

    def test_no_module_keeps_what_could_be_changed(self):
        for file in INTERFACE:
            module = importlib.import_module(f"manytimes.{file}")
            for name, value in vars(module).items():
                if not name.startswith("__"):
                    self.assertNotIsInstance(value, (list, dict, set), (file, name))


if __name__ == "__main__":
    unittest.main()
