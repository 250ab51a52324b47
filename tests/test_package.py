import ast
import pathlib
import unittest

TOP = pathlib.Path(__file__).resolve().parent.parent / "stridelots"

FROM = ["stridelots", "heapq", "math", "itertools", "collections"]

LISTED = {
    "errors.py": [
        "StrideError", "NoStanding", "NoBook", "NoDeed", "NoTurning", "NotEven",
        "NoRound", "NoPair", "Barred", "TooMany", "Few", "NoPlan", "NoName", "Full",
    ],
    "boards/cells.py": ["MOST_CELLS", "cells_many"],
    "boards/texts.py": ["standing_shown", "read_standing"],
    "books/rules.py": ["need_book", "all_deeds", "pairs_of"],
    "books/doing.py": ["done"],
    "webs/classes.py": ["classes_of"],
    "webs/marks.py": ["is_even", "marks_of", "kinds_of"],
    "signs/rows.py": ["sign_row", "span_of", "lots_of"],
    "signs/turns.py": ["turning_signs"],
    "papers/barred.py": ["barred"],
    "papers/looker.py": ["barred_shown"],
    "ways/rounds.py": ["round_of", "pair_turned"],
    "ways/led.py": ["led"],
    "counts/many.py": ["many_led"],
    "counts/fewest.py": ["MOST_SEEN", "fewest", "steps_of"],
    "plans/turnings.py": ["Turning"],
    "plans/texts.py": ["turning_of", "read_plans"],
    "yard.py": ["LIMIT", "Yard"],
}


def files():
    return sorted(TOP.rglob("*.py"))


def defined(tree):
    names = []
    for node in tree.body:
        if isinstance(node, (ast.FunctionDef, ast.ClassDef)):
            names.append(node.name)
        if isinstance(node, ast.Assign):
            names += [target.id for target in node.targets]
    return names


class Package(unittest.TestCase):
    def test_interface_is_defined_where_it_is_listed(self):
        for file, names in LISTED.items():
            found = defined(ast.parse((TOP / file).read_text()))
            for name in names:
                with self.subTest(file=file, name=name):
                    self.assertIn(name, found)

    def test_each_folder_has_an_init(self):
        for folder in {file.parent for file in files()}:
            self.assertTrue((folder / "__init__.py").is_file(), folder)

    def test_sizes_and_signs(self):
        for file in files():
            text = file.read_bytes().decode("ascii")
            with self.subTest(file=file.name):
                self.assertEqual([c for c in text if c != "\n" and not " " <= c <= "~"], [])
                self.assertLessEqual(len(text.splitlines()), 399)
                self.assertLessEqual(max(map(len, text.splitlines()), default=0), 120)

    def test_functions_are_small(self):
        for file in files():
            for node in ast.walk(ast.parse(file.read_text())):
                if isinstance(node, ast.FunctionDef):
                    with self.subTest(file=file.name, name=node.name):
                        self.assertLessEqual(node.end_lineno - node.lineno + 1, 40)

    def test_imports(self):
        for file in files():
            for node in ast.walk(ast.parse(file.read_text())):
                self.assertNotIsInstance(node, ast.Import, file)
                if isinstance(node, ast.ImportFrom):
                    with self.subTest(file=file.name, module=node.module):
                        self.assertEqual(node.level, 0)
                        self.assertIn(node.module.split(".")[0], FROM)


if __name__ == "__main__":
    unittest.main()
