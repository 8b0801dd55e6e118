import ast
import unittest
from pathlib import Path

PACKAGE = Path(__file__).resolve().parent.parent / "latekinds"

# What the document's interface lists: functions with their arguments, classes with their methods.
FUNCTIONS = {
    "books": (
        "is_a(book, x, p)", "forebears(book, x)", "heirs(book, x)", "loaded(book, parents)", "beginning(book, many)",
        "plain(book)", "reordered(book, order)", "beside(one_book, other_book)",
    ),
    "widths": (
        "width(book)", "widest(book)", "dealing(book)", "widths(book)", "is_dealing(book, thing)",
        "is_side_by_side(book, thing)", "all_widest(book)",
    ),
    "schemes": (
        "says(scheme, x, p)", "is_scheme(book, thing)", "first_wrong(book, scheme)", "slots_of(scheme)",
        "scheme_of(book, dealing)", "many_slots(scheme)",
    ),
    "rule": ("placed(book)", "groups(book)", "told_scheme(book)"),
    "loader": (
        "led(rule, book)", "told_rule(book, slots)", "first_fit(book, slots)", "most_loads(width)",
        "most_loads_by_twos(width)", "beaten(rule, width)", "beaten_by_twos(rule, width)",
        "is_beaten(rule, width, thing)", "is_beaten_by_twos(rule, width, thing)",
    ),
    "orders": ("tree_placed(book)", "best_order(book)", "worst_order(book)"),
    "names": (
        "web_names(book)", "tree_names(book)", "web_says(name, other)", "tree_says(name, other)",
        "broken(naming, teller, many)", "is_broken(naming, teller, many, thing)",
    ),
    "numbers": ("two_orders(book)", "forces(book)", "is_two_orders(book, thing)", "is_forces(book, thing)"),
    "telling": ("lot_of(scheme, x)", "common(scheme, x, y)", "meet(scheme, x, y)"),
    "clauses": (
        "label_of(book, clauses, x)", "never_met(book, clauses)", "alike(book, one, other)", "parting(book, one, other)",
    ),
    "fields": (
        "is_laying(book, fields, arms, thing)", "is_hues(book, fields, arms, thing)", "is_odd_ring(book, fields, thing)",
        "first_hole(book, fields, laying)", "quarrels(book, fields)", "hues(book, fields, arms)",
        "laying(book, fields, arms)", "odd_ring(book, fields)", "count_layings(book, fields)",
    ),
    "texts": ("book_text(book)", "scheme_text(scheme)", "read_book(text)", "read_scheme(text)"),
    "programs": ("is_program(thing)", "check_rows(thing)", "run(program, most)"),
    "machines": ("laid(book, fields)",),
    "images": ("image(machine)", "restored(program, text)", "recovered(program, older, newer)"),
}
METHODS = {
    ("books", "Book"): ("__init__(self, parents)", "__eq__(self, other)"),
    ("runtimes", "Runtime"): (
        "__init__(self)", "load(self, parents)", "ask(self, x, p)", "given(self, x)", "book(self)", "groups(self)",
        "back(self)", "many(self)", "copy(self)", "trying(self, action)",
    ),
    ("machines", "Machine"): (
        "__init__(self, program)", "step(self)", "go(self, most)", "shown(self)", "end(self)",
        "load(self, parents, fields)", "kinds(self)", "given(self, kind)", "memory(self, o)", "back(self)", "copy(self)",
    ),
    ("desks", "Desk"): ("__init__(self)", "tell(self, line)", "undoable(self)"),
}


def told(body):
    """The functions that stand right in a body, as the interface writes them."""
    return [
        f"{part.name}({', '.join(one.arg for one in part.args.args)})" for part in body
        if isinstance(part, ast.FunctionDef)
    ]


def body_of(name):
    return ast.parse((PACKAGE / f"{name}.py").read_text()).body


class Interface(unittest.TestCase):
    def test_functions(self):
        for name, functions in FUNCTIONS.items():
            for function in functions:
                self.assertIn(function, told(body_of(name)))

    def test_classes(self):
        for (name, shape), methods in METHODS.items():
            found = [part for part in body_of(name) if isinstance(part, ast.ClassDef) and part.name == shape]
            self.assertEqual(len(found), 1)
            for method in methods:
                self.assertIn(method, told(found[0].body))


if __name__ == "__main__":
    unittest.main()
