"""The names and arguments of the interface."""

import importlib
import inspect
import unittest

FUNCTIONS = {
    "kinnames.books": {"is_name": 1, "is_book": 1, "table": 2, "behind": 3},
    "kinnames.shares": {
        "added": 2, "times": 2, "less": 2, "is_less": 2, "steps": 3, "share": 3, "makes": 3, "likelier": 4,
    },
    "kinnames.lengths": {"how_many": 3, "share_of_length": 3, "share_up_to": 3, "all_made": 3, "lengths": 2},
    "kinnames.wishes": {"is_wish": 1, "fits": 3},
    "kinnames.likely": {"likeliest": 4, "place_of": 4},
    "kinnames.holding": {"share_fitting": 3, "can_fit": 3},
    "kinnames.drawing": {"drawn": 3, "drawn_fitting": 4, "numbers_for": 3},
    "kinnames.supports": {"makers": 3, "best_maker": 3, "greatest_order": 2, "needed": 3, "shows": 4},
    "kinnames.together": {"mixed": 2, "shared_ends": 3, "lacking": 3, "best_for": 3, "makes_all": 3},
    "kinnames.begun": {"next_letters": 3, "how_many_begun": 3, "share_begun": 3, "likeliest_begun": 3},
    "kinnames.texts": {"book_text": 1, "table_text": 2, "read_book": 1},
}

# Each class with the number of things that it is made of, and its methods with theirs.
CLASSES = {
    ("kinnames.keepers", "Keeper", 1): {
        "book": 0, "given": 0, "hear": 1, "forget": 1, "give": 2, "give_likeliest": 1,
    },
    ("kinnames.pens", "Pen", 2): {
        "text": 0, "letters": 0, "may_end": 0, "part": 0, "add": 1, "rub": 0, "finish": 0, "back": 0, "forth": 0,
        "many": 0, "twin": 0,
    },
    ("kinnames.ledgers", "Ledger", 1): {
        "keep": 2, "drop": 1, "hear": 2, "titles": 0, "book": 1, "tellers": 1, "makers_of": 1, "best_of": 1,
        "back": 0, "forth": 0, "many": 0, "twin": 0,
    },
}


class Interface(unittest.TestCase):
    def test_each_function_is_there_with_its_arguments(self):
        for module, functions in FUNCTIONS.items():
            for name, many in functions.items():
                with self.subTest(module=module, name=name):
                    function = getattr(importlib.import_module(module), name)
                    self.assertEqual(len(inspect.signature(function).parameters), many)

    def test_each_class_is_there_with_its_methods(self):
        for (module, name, many), methods in CLASSES.items():
            kind = getattr(importlib.import_module(module), name)
            self.assertTrue(inspect.isclass(kind), name)
            self.assertEqual(len(inspect.signature(kind).parameters), many, name)
            for method, arguments in methods.items():
                with self.subTest(name=name, method=method):
                    parameters = inspect.signature(getattr(kind, method)).parameters
                    self.assertEqual(len(parameters) - 1, arguments)


if __name__ == "__main__":
    unittest.main()
