"""The names and arguments of the interface, as far as it is built."""

import importlib
import inspect
import unittest

FUNCTIONS = {
    "kinnames.books": {"is_name": 1, "is_book": 1, "table": 2, "behind": 3},
    "kinnames.shares": {
        "added": 2, "times": 2, "less": 2, "is_less": 2, "steps": 3, "share": 3, "makes": 3, "likelier": 4,
    },
    "kinnames.lengths": {"how_many": 3, "share_of_length": 3, "share_up_to": 3, "all_made": 3, "lengths": 2},
    "kinnames.wishes": {"is_wish": 1, "fits": 3},
    "kinnames.likely": {"likeliest": 4, "place_of": 4},
    "kinnames.holding": {"share_fitting": 3, "can_fit": 3},
}


class Interface(unittest.TestCase):
    def test_each_function_is_there_with_its_arguments(self):
        for module, functions in FUNCTIONS.items():
            for name, many in functions.items():
                with self.subTest(module=module, name=name):
                    function = getattr(importlib.import_module(module), name)
                    self.assertEqual(len(inspect.signature(function).parameters), many)


if __name__ == "__main__":
    unittest.main()
