import ast
import unittest
from pathlib import Path

PACKAGE = Path(__file__).resolve().parent.parent / "latekinds"

# What has landed, as the document's interface lists it: functions with their arguments, classes with their methods.
FUNCTIONS = {
    "books": (
        "is_a(book, x, p)", "forebears(book, x)", "heirs(book, x)", "loaded(book, parents)", "beginning(book, many)",
        "plain(book)", "reordered(book, order)", "beside(one_book, other_book)",
    ),
    "widths": (
        "width(book)", "widest(book)", "dealing(book)", "widths(book)", "is_dealing(book, thing)",
        "is_side_by_side(book, thing)", "all_widest(book)",
    ),
    "schemes": (
        "says(scheme, x, p)", "is_scheme(book, thing)", "first_wrong(book, scheme)", "slots_of(scheme)",
        "scheme_of(book, dealing)", "many_slots(scheme)",
    ),
    "rule": ("placed(book)", "groups(book)", "told_scheme(book)"),
    "loader": (
        "led(rule, book)", "told_rule(book, slots)", "first_fit(book, slots)", "most_loads(width)",
        "most_loads_by_twos(width)", "beaten(rule, width)", "beaten_by_twos(rule, width)",
        "is_beaten(rule, width, thing)", "is_beaten_by_twos(rule, width, thing)",
    ),
    "orders": ("tree_placed(book)", "best_order(book)", "worst_order(book)"),
    "names": (
        "web_names(book)", "tree_names(book)", "web_says(name, other)", "tree_says(name, other)",
        "broken(naming, teller, many)", "is_broken(naming, teller, many, thing)",
    ),
    "numbers": ("two_orders(book)", "forces(book)", "is_two_orders(book, thing)", "is_forces(book, thing)"),
    "telling": ("lot_of(scheme, x)", "common(scheme, x, y)", "meet(scheme, x, y)"),
}
METHODS = {("books", "Book"): ("__init__(self, parents)", "__eq__(self, other)")}


def told(body):
    """The functions that stand right in a body, as the interface writes them."""
    return [
        f"{part.name}({', '.join(one.arg for one in part.args.args)})" for part in body
        if isinstance(part, ast.FunctionDef)
    ]


def body_of(name):
    return ast.parse((PACKAGE / f"{name}.py").read_text()).body


class Interface(unittest.TestCase):
    def test_functions(self):
        for name, functions in FUNCTIONS.items():
            for function in functions:
                self.assertIn(function, told(body_of(name)))

    def test_classes(self):
        for (name, shape), methods in METHODS.items():
            found = [part for part in body_of(name) if isinstance(part, ast.ClassDef) and part.name == shape]
            self.assertEqual(len(found), 1)
            for method in methods:
                self.assertIn(method, told(found[0].body))


if __name__ == "__main__":
    unittest.main()
