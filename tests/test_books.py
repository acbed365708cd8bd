"""Names, books, tables: 0.2 (a), 0.3, 1.1 and 1.2."""

import string
import unittest

from kinnames.books import behind, is_book, is_name, table
from kinnames.errors import NoBook, NoName, NoOrder
from tests.helpers import (
    BOOKS, LARGER_BOOKS, NO_BOOKS, NO_NAMES, NO_ORDERS, NO_TEXTS, ORDERS, SMALL_NAMES, STRANGE_THINGS,
    refusal, slow_row, slow_table, ten_deep,
)

ANNAS = ("anna", "ann")


class Names(unittest.TestCase):
    def test_names_at_their_bounds(self):
        for length in range(12):
            self.assertIs(is_name("a" * length), 1 <= length <= 8, length)
        self.assertIs(is_name("abcdefgh"), True)
        self.assertIs(is_name("abcdefghi"), False)
        self.assertIs(is_name(""), False)

    def test_each_letter_from_a_to_z(self):
        for letter in string.ascii_lowercase:
            self.assertIs(is_name(letter), True, letter)
            self.assertIs(is_name("a" + letter + "z"), True, letter)

    def test_no_other_sign_wherever_it_stands(self):
        others = [chr(number) for number in range(0x250) if chr(number) not in string.ascii_lowercase]
        for sign in others + ["\u0430", "\u03b1", "\uff41", "\u2170", "\u0660", "\U0001d41a", "\ud800"]:
            for text in (sign, sign + "a", "a" + sign, "a" + sign + "a", "aaaaaaa" + sign):
                self.assertIs(is_name(text), False, repr(text))

    def test_things_of_every_kind_are_no_names(self):
        for thing in NO_NAMES:
            self.assertIs(is_name(thing), False, repr(thing))

    def test_lists_and_tuples_of_letters_are_no_names(self):
        for thing in (["a"], ("a",), ["a", "b"], ("a", "b"), list("anna"), tuple("anna"), {"a": 1}):
            self.assertIs(is_name(thing), False, repr(thing))

    def test_things_are_as_they_were(self):
        for asked in (is_name, is_book):
            for thing in NO_NAMES + NO_BOOKS:
                self.assertIsNone(refusal(asked, thing), repr(thing))


class Books(unittest.TestCase):
    def test_books_at_their_bounds(self):
        for many in range(12):
            self.assertIs(is_book(("anna",) * many), 1 <= many <= 8, many)
        self.assertIs(is_book(("a", "b", "c", "d", "e", "f", "g", "h")), True)
        self.assertIs(is_book(("a", "b", "c", "d", "e", "f", "g", "h", "i")), False)
        self.assertIs(is_book(()), False)

    def test_the_names_of_a_book_at_their_bounds(self):
        self.assertIs(is_book(("a", "abcdefgh")), True)
        self.assertIs(is_book(("a", "abcdefghi")), False)
        self.assertIs(is_book(("a", "")), False)
        self.assertIs(is_book(("",)), False)

    def test_a_name_told_twice(self):
        self.assertIs(is_book(("anna", "anna")), True)
        self.assertIs(is_book(("anna", "ben", "anna")), True)

    def test_each_name_of_a_book_counts(self):
        for place in range(8):
            for wrong in ("", "A", "an na", "abcdefghi", 1, True, None, ["anna"], ("anna",)):
                names = ["anna"] * 8
                names[place] = wrong
                self.assertIs(is_book(tuple(names)), False, repr(names))

    def test_a_list_is_no_book(self):
        self.assertIs(is_book(["anna", "ben"]), False)
        self.assertIs(is_book({"anna": 1}), False)

    def test_a_text_is_no_book(self):
        self.assertIs(is_book("anna"), False)
        self.assertIs(is_book("a"), False)

    def test_things_of_every_kind_are_no_books(self):
        for thing in NO_BOOKS:
            self.assertIs(is_book(thing), False, repr(thing))
        self.assertIs(is_book(ten_deep("anna", tuple)), False)

    def test_all_samples_are_books(self):
        for book in BOOKS:
            self.assertIs(is_book(book), True, book)


class Tables(unittest.TestCase):
    def test_order_1(self):
        self.assertEqual(table(ANNAS, 1), [
            ("", (("a", 2),)),
            ("a", (("", 1), ("n", 2))),
            ("n", (("", 1), ("a", 1), ("n", 2))),
        ])

    def test_order_2(self):
        self.assertEqual(table(ANNAS, 2), [
            ("", (("a", 2),)),
            ("a", (("n", 2),)),
            ("an", (("n", 2),)),
            ("na", (("", 1),)),
            ("nn", (("", 1), ("a", 1))),
        ])

    def test_order_3(self):
        self.assertEqual(table(ANNAS, 3), [
            ("", (("a", 2),)),
            ("a", (("n", 2),)),
            ("an", (("n", 2),)),
            ("ann", (("", 1), ("a", 1))),
            ("nna", (("", 1),)),
        ])

    def test_a_name_shorter_than_the_order(self):
        for order in ORDERS:
            self.assertEqual(table(("b",), order), [("", (("b", 1),)), ("b", (("", 1),))])
        for order in (2, 3):
            self.assertEqual(
                table(("ba",), order), [("", (("b", 1),)), ("b", (("a", 1),)), ("ba", (("", 1),))]
            )
        self.assertEqual(table(("ba",), 1), [("", (("b", 1),)), ("a", (("", 1),)), ("b", (("a", 1),))])

    def test_a_name_told_twice_counts_twice(self):
        self.assertEqual(table(("ab", "ab", "a"), 1), [
            ("", (("a", 3),)),
            ("a", (("", 1), ("b", 2))),
            ("b", (("", 2),)),
        ])
        self.assertEqual(table(("a",) * 8, 3), [("", (("a", 8),)), ("a", (("", 8),))])

    def test_an_end_that_comes_again_within_a_name(self):
        self.assertEqual(table(("aaaaaaaa",), 1), [("", (("a", 1),)), ("a", (("", 1), ("a", 7)))])
        self.assertEqual(table(("aaaaaaaa",), 3), [
            ("", (("a", 1),)), ("a", (("a", 1),)), ("aa", (("a", 1),)), ("aaa", (("", 1), ("a", 5))),
        ])

    def test_like_a_look_at_every_place(self):
        for book in BOOKS:
            for order in ORDERS:
                self.assertEqual(table(book, order), slow_table(book, order), (book, order))

    def test_rising_with_rising_rows_and_the_kinds_as_told(self):
        for book in LARGER_BOOKS + (("zb", "za", "b", "a"), ("ca", "cb", "c", "ba", "a")):
            for order in ORDERS:
                told = table(book, order)
                self.assertIs(type(told), list)
                ends = [end for end, row in told]
                self.assertEqual(ends, sorted(set(ends)))
                for pair in told:
                    self.assertIs(type(pair), tuple)
                    self.assertIs(type(pair[1]), tuple)
                    letters = [letter for letter, often in pair[1]]
                    self.assertEqual(letters, sorted(set(letters)))
                    self.assertTrue(letters)
                    for entry in pair[1]:
                        self.assertIs(type(entry), tuple)
                        self.assertIs(type(entry[1]), int)
                        self.assertGreater(entry[1], 0)

    def test_the_order_of_the_names_does_not_matter(self):
        for book in LARGER_BOOKS:
            for order in ORDERS:
                self.assertEqual(table(book, order), table(tuple(reversed(book)), order))

    def test_a_new_list_each_time(self):
        for order in ORDERS:
            told = table(ANNAS, order)
            kept = list(told)
            told.append("more")
            told[0] = None
            self.assertEqual(table(ANNAS, order), kept)
            told.clear()
            self.assertEqual(table(ANNAS, order), kept)


class Behind(unittest.TestCase):
    def test_the_row_of_the_end(self):
        self.assertEqual(behind(ANNAS, 1, "a"), [("", 1), ("n", 2)])
        self.assertEqual(behind(ANNAS, 1, "n"), [("", 1), ("a", 1), ("n", 2)])
        self.assertEqual(behind(ANNAS, 2, "nn"), [("", 1), ("a", 1)])
        self.assertEqual(behind(ANNAS, 3, "ann"), [("", 1), ("a", 1)])
        self.assertEqual(behind(ANNAS, 3, "anna"), [("", 1)])

    def test_the_end_alone_counts(self):
        self.assertEqual(behind(ANNAS, 1, "xyzzya"), [("", 1), ("n", 2)])
        self.assertEqual(behind(ANNAS, 2, "xyzzynn"), [("", 1), ("a", 1)])
        self.assertEqual(behind(ANNAS, 3, "xyzzyann"), [("", 1), ("a", 1)])
        self.assertEqual(behind(ANNAS, 3, "xnn"), [])

    def test_a_text_shorter_than_the_order(self):
        self.assertEqual(behind(ANNAS, 2, "a"), [("n", 2)])
        self.assertEqual(behind(ANNAS, 3, "an"), [("n", 2)])
        self.assertEqual(behind(ANNAS, 2, "n"), [])
        self.assertEqual(behind(ANNAS, 3, "nn"), [])

    def test_the_empty_text(self):
        for order in ORDERS:
            self.assertEqual(behind(ANNAS, order, ""), [("a", 2)])
            self.assertEqual(behind(("b", "ab", "b"), order, ""), [("a", 1), ("b", 2)])

    def test_an_end_that_is_in_no_told_name(self):
        for order in ORDERS:
            for text in ("x", "ax", "annax", "abcdefgh"):
                self.assertEqual(behind(ANNAS, order, text), [], (order, text))

    def test_like_the_table(self):
        for book in BOOKS:
            for order in ORDERS:
                rows = dict(table(book, order))
                for text in ("",) + SMALL_NAMES + book:
                    told = behind(book, order, text)
                    self.assertIs(type(told), list)
                    end = text[max(0, len(text) - order):]
                    self.assertEqual(told, list(rows.get(end, ())), (book, order, text))
                    self.assertEqual(tuple(told), slow_row(book, order, end), (book, order, text))

    def test_what_stands_behind_an_end_stands_there_in_a_told_name(self):
        for book in BOOKS:
            for order in ORDERS:
                for text in ("",) + SMALL_NAMES:
                    end = text[max(0, len(text) - order):]
                    for letter, often in behind(book, order, text):
                        piece = end + (letter or ".")
                        marked = [name + "." for name in book]
                        whole = len(end) < order
                        stands = [name for name in marked if (name.startswith(piece) if whole else piece in name)]
                        self.assertTrue(stands, (book, order, text, letter))

    def test_each_told_name_can_be_gone_along(self):
        for book in BOOKS:
            for order in ORDERS:
                for name in book:
                    for place in range(len(name) + 1):
                        letters = [letter for letter, often in behind(book, order, name[:place])]
                        self.assertIn(name[place:place + 1], letters)

    def test_a_new_list_each_time(self):
        for text in ("", "a", "n", "x"):
            told = behind(ANNAS, 1, text)
            kept = list(told)
            told.append("more")
            self.assertEqual(behind(ANNAS, 1, text), kept)


class Refusals(unittest.TestCase):
    def test_what_is_no_book(self):
        for thing in NO_BOOKS:
            self.assertIs(refusal(table, thing, 1), NoBook, repr(thing))
            self.assertIs(refusal(behind, thing, 1, "a"), NoBook, repr(thing))

    def test_what_is_no_order(self):
        for thing in NO_ORDERS + (0, 4, True, False, "1", -1, 99):
            self.assertIs(refusal(table, ANNAS, thing), NoOrder, repr(thing))
            self.assertIs(refusal(behind, ANNAS, thing, "a"), NoOrder, repr(thing))

    def test_what_is_no_name_nor_the_empty_text(self):
        for thing in NO_TEXTS:
            self.assertIs(refusal(behind, ANNAS, 1, thing), NoName, repr(thing))

    def test_the_first_that_is_due(self):
        for thing in STRANGE_THINGS:
            self.assertIs(refusal(table, thing, thing), NoBook, repr(thing))
            self.assertIs(refusal(behind, thing, thing, thing), NoBook, repr(thing))
            self.assertIs(refusal(behind, thing, 1, thing), NoBook, repr(thing))
            self.assertIs(refusal(behind, thing, thing, "a"), NoBook, repr(thing))
            self.assertIs(refusal(behind, ANNAS, thing, thing), NoOrder, repr(thing))

    def test_what_is_right_is_not_refused(self):
        for book in LARGER_BOOKS:
            for order in ORDERS:
                self.assertIsNone(refusal(table, book, order))
                for text in ("", "a", "z", "abcdefgh"):
                    self.assertIsNone(refusal(behind, book, order, text))


if __name__ == "__main__":
    unittest.main()
