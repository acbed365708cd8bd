"""The names and arguments of the interface, as far as it is built."""

import importlib
import inspect
import unittest

FUNCTIONS = {
    "kinnames.books": {"is_name": 1, "is_book": 1, "table": 2, "behind": 3},
    "kinnames.shares": {
        "added": 2, "times": 2, "less": 2, "is_less": 2, "steps": 3, "share": 3, "makes": 3, "likelier": 4,
    },
}


class Interface(unittest.TestCase):
    def test_each_function_is_there_with_its_arguments(self):
        for module, functions in FUNCTIONS.items():
            for name, many in functions.items():
                with self.subTest(module=module, name=name):
                    function = getattr(importlib.import_module(module), name)
                    self.assertEqual(len(inspect.signature(function).parameters), many)


if __name__ == "__main__":
    unittest.main()
