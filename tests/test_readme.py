"""Holds README.md's examples against what the program tells."""

import ast
import pathlib
import unittest

README = pathlib.Path(__file__).resolve().parent.parent / "README.md"


def examples():
    lines = README.read_text().splitlines()
    rows = [line[4:] for line in lines if line.startswith("    ") and not line.startswith("    python3")]
    return "\n".join(rows)


def due_of(line):
    """What a line's comment says is told, as text; or None."""
    _, mark, due = line.partition("  # ")
    if not mark or ".." in due or due.startswith("the "):
        return None
    return due.strip()


class Readme(unittest.TestCase):
    def told(self, lines, node, told):
        due = due_of(lines[node.end_lineno - 1])
        if due is not None:
            self.seen += 1
            with self.subTest(line=lines[node.end_lineno - 1]):
                # A Turning is told as it is shown.
                if repr(told) != due:
                    self.assertEqual(told, ast.literal_eval(due))

    def test_examples(self):
        text, names = examples(), {}
        self.seen = 0
        for node in ast.parse(text).body:
            if isinstance(node, ast.Expr):
                told = eval(compile(ast.Expression(node.value), "README", "eval"), names)
                self.told(text.splitlines(), node, told)
            else:
                exec(compile(ast.Module([node], []), "README", "exec"), names)
        self.assertGreater(self.seen, 30)

    def test_refusals_in_examples(self):
        text, names = examples(), {}
        lines = text.splitlines()
        many = 0
        for node in ast.parse(text).body:
            if isinstance(node, ast.Try):
                # The handler's one line tells what the refusal keeps.
                with self.assertRaises(ValueError) as caught:
                    exec(compile(ast.Module(node.body, []), "README", "exec"), names)
                kept = node.handlers[0].body[0].value.attr
                self.assertEqual(type(caught.exception).__name__, node.handlers[0].type.id)
                due = due_of(lines[node.end_lineno - 1])
                self.assertEqual(getattr(caught.exception, kept), ast.literal_eval(due))
                many += 1
            else:
                exec(compile(ast.Module([node], []), "README", "exec"), names)
        self.assertEqual(many, 3)


if __name__ == "__main__":
    unittest.main()
