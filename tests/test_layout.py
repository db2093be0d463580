"""How the package is laid out: what is imported stands in the very file that defines it."""

import ast
import pathlib
import unittest

import firstfailing

FOLDER = pathlib.Path(firstfailing.__file__).parent
TREES = {path.stem: ast.parse(path.read_text()) for path in sorted(FOLDER.glob("*.py"))}


def defined_in(tree):
    """The names that a file defines itself, with what they are."""
    names = {}
    for part in tree.body:
        if isinstance(part, (ast.FunctionDef, ast.ClassDef)):
            names[part.name] = part
        if isinstance(part, ast.Assign):
            names[part.targets[0].id] = part
    return names


class Layout(unittest.TestCase):
    def imports(self):
        """The modules, and for each import the module and the name that it is of."""
        for module, tree in TREES.items():
            for part in ast.walk(tree):
                self.assertNotIsInstance(part, ast.Import)
                if isinstance(part, ast.ImportFrom):
                    self.assertEqual(part.level, 0)
                    for name in part.names:
                        self.assertIsNone(name.asname)
                        yield module, part.module, name.name

    def test_names_are_imported_from_the_file_that_defines_them(self):
        for module, source, name in self.imports():
            if source != "math":
                package, _, file = source.partition(".")
                self.assertEqual(package, "firstfailing", (module, source))
                self.assertIn(name, defined_in(TREES[file]), (module, source))

    def test_no_files_import_each_other(self):
        drawn = {module: set() for module in TREES}
        for module, source, _ in self.imports():
            if source != "math":
                drawn[module].add(source.partition(".")[2])
        while drawn:
            free = [module for module in drawn if not drawn[module] & set(drawn)]
            self.assertTrue(free, sorted(drawn))
            for module in free:
                del drawn[module]

    def test_what_is_imported_is_used(self):
        for module, _, name in self.imports():
            used = [part.id for part in ast.walk(TREES[module]) if isinstance(part, ast.Name)]
            self.assertIn(name, used, module)


if __name__ == "__main__":
    unittest.main()
