"""Fractions and shares: 0.2 (a) and (b), 0.3, 2.1 and 2.2."""

import itertools
import math
import unittest
from fractions import Fraction

from kinnames.books import table
from kinnames.errors import NoBook, NoName, NoOrder
from kinnames.shares import added, is_less, less, likelier, makes, share, steps, times
from tests.helpers import (
    BOOKS, LARGER_BOOKS, NO_BOOKS, NO_NAMES, NO_ORDERS, ORDERS, SMALL_BOOKS, SMALL_NAMES, STRANGE_THINGS,
    as_tuple, refusal, slow_row, slow_share,
)

ANNAS = ("anna", "ann")

FRACTIONS = sorted({as_tuple(Fraction(up, down)) for up in range(13) for down in range(1, 13)}) + [
    (1, 10 ** 40), (10 ** 40, 1), (10 ** 40, 3), (3 ** 50, 2 ** 70), (2 ** 70, 3 ** 50), (99, 100), (100, 99),
]


class Fractions(unittest.TestCase):
    def told_as(self, told, wanted):
        self.assertEqual(told, as_tuple(wanted))
        self.assertIs(type(told), tuple)
        self.assertIs(type(told[0]), int)
        self.assertIs(type(told[1]), int)

    def test_in_lowest_terms(self):
        self.assertEqual(added((1, 2), (1, 3)), (5, 6))
        self.assertEqual(added((1, 6), (1, 3)), (1, 2))
        self.assertEqual(added((1, 2), (1, 2)), (1, 1))
        self.assertEqual(added((3, 4), (3, 4)), (3, 2))
        self.assertEqual(times((2, 3), (3, 4)), (1, 2))
        self.assertEqual(times((2, 3), (3, 2)), (1, 1))
        self.assertEqual(times((5, 7), (1, 1)), (5, 7))
        self.assertEqual(less((1, 2), (1, 3)), (1, 6))
        self.assertEqual(less((5, 6), (1, 3)), (1, 2))
        self.assertEqual(less((7, 2), (1, 2)), (3, 1))

    def test_nought_is_told_in_one_way(self):
        self.assertEqual(added((0, 1), (0, 1)), (0, 1))
        self.assertEqual(added((0, 1), (2, 5)), (2, 5))
        self.assertEqual(added((2, 5), (0, 1)), (2, 5))
        self.assertEqual(times((0, 1), (2, 5)), (0, 1))
        self.assertEqual(times((2, 5), (0, 1)), (0, 1))
        self.assertEqual(times((0, 1), (0, 1)), (0, 1))
        self.assertEqual(less((2, 5), (2, 5)), (0, 1))
        self.assertEqual(less((2, 5), (0, 1)), (2, 5))
        self.assertEqual(less((0, 1), (0, 1)), (0, 1))

    def test_like_exact_reckoning(self):
        for one, other in itertools.product(FRACTIONS, repeat=2):
            left = Fraction(*one)
            right = Fraction(*other)
            self.told_as(added(one, other), left + right)
            self.told_as(times(one, other), left * right)
            if left >= right:
                self.told_as(less(one, other), left - right)
            self.assertIs(is_less(one, other), left < right, (one, other))

    def test_is_less_of_like_and_unlike_ones(self):
        self.assertIs(is_less((1, 3), (1, 2)), True)
        self.assertIs(is_less((1, 2), (1, 3)), False)
        self.assertIs(is_less((1, 2), (1, 2)), False)
        self.assertIs(is_less((0, 1), (0, 1)), False)
        self.assertIs(is_less((0, 1), (1, 99)), True)
        self.assertIs(is_less((2, 3), (3, 4)), True)
        self.assertIs(is_less((3, 4), (2, 3)), False)
        self.assertIs(is_less((5, 1), (1, 5)), False)

    def test_is_less_where_rounding_would_not_tell_them_apart(self):
        self.assertIs(is_less((10 ** 40 - 1, 10 ** 40), (1, 1)), True)
        self.assertIs(is_less((1, 1), (10 ** 40 - 1, 10 ** 40)), False)


class Steps(unittest.TestCase):
    def test_of_a_told_name(self):
        self.assertEqual(steps(ANNAS, 1, "anna"), [
            ("", "a", (1, 1)), ("a", "n", (2, 3)), ("n", "n", (1, 2)), ("n", "a", (1, 4)), ("a", "", (1, 3)),
        ])
        self.assertEqual(steps(ANNAS, 2, "anna"), [
            ("", "a", (1, 1)), ("a", "n", (1, 1)), ("an", "n", (1, 1)), ("nn", "a", (1, 2)), ("na", "", (1, 1)),
        ])
        self.assertEqual(steps(ANNAS, 3, "anna"), [
            ("", "a", (1, 1)), ("a", "n", (1, 1)), ("an", "n", (1, 1)), ("ann", "a", (1, 2)), ("nna", "", (1, 1)),
        ])

    def test_of_a_name_that_is_made_but_not_told(self):
        self.assertEqual(steps(ANNAS, 1, "an"), [("", "a", (1, 1)), ("a", "n", (2, 3)), ("n", "", (1, 4))])

    def test_of_a_name_that_is_not_made(self):
        self.assertEqual(steps(ANNAS, 2, "an"), [("", "a", (1, 1)), ("a", "n", (1, 1)), ("an", "", (0, 1))])
        self.assertEqual(steps(ANNAS, 1, "xa"), [("", "x", (0, 1)), ("x", "a", (0, 1)), ("a", "", (1, 3))])
        self.assertEqual(steps(ANNAS, 1, "xy"), [("", "x", (0, 1)), ("x", "y", (0, 1)), ("y", "", (0, 1))])

    def test_of_a_name_shorter_than_the_order(self):
        for order in ORDERS:
            self.assertEqual(steps(("b",), order, "b"), [("", "b", (1, 1)), ("b", "", (1, 1))])
            self.assertEqual(steps(("b",), order, "a"), [("", "a", (0, 1)), ("a", "", (0, 1))])

    def test_ends_letters_and_parts_as_counted(self):
        for book in BOOKS:
            for order in ORDERS:
                for name in SMALL_NAMES[::3] + book + ("abcdefgh", "q"):
                    told = steps(book, order, name)
                    self.assertIs(type(told), list)
                    self.assertEqual(len(told), len(name) + 1)
                    for place, step in enumerate(told):
                        end = name[max(0, place - order):place]
                        letter = name[place:place + 1]
                        row = dict(slow_row(book, order, end))
                        part = Fraction(row.get(letter, 0), sum(row.values()) or 1)
                        self.assertEqual(step, (end, letter, as_tuple(part)), (book, order, name))
                        self.assertIs(type(step), tuple)
                        self.assertIs(type(step[2]), tuple)

    def test_a_new_list_each_time(self):
        for name in ("anna", "an", "xy"):
            told = steps(ANNAS, 1, name)
            kept = list(told)
            told.append("more")
            told[0] = None
            self.assertEqual(steps(ANNAS, 1, name), kept)


class Shares(unittest.TestCase):
    def test_of_told_names(self):
        self.assertEqual(share(ANNAS, 1, "anna"), (1, 36))
        self.assertEqual(share(ANNAS, 1, "ann"), (1, 12))
        self.assertEqual(share(ANNAS, 2, "anna"), (1, 2))
        self.assertEqual(share(ANNAS, 3, "ann"), (1, 2))
        self.assertEqual(share(("a",), 1, "a"), (1, 1))
        self.assertEqual(share(("abcdefgh",), 1, "abcdefgh"), (1, 1))

    def test_of_names_that_are_made_but_not_told(self):
        self.assertEqual(share(ANNAS, 1, "a"), (1, 3))
        self.assertEqual(share(ANNAS, 1, "an"), (1, 6))
        self.assertEqual(share(("aa",), 1, "aaa"), (1, 8))

    def test_of_names_that_are_not_made(self):
        for order in ORDERS:
            for name in ("x", "xanna", "annax", "n", "na", "abcdefgh"):
                self.assertEqual(share(ANNAS, order, name), (0, 1), (order, name))
        self.assertEqual(share(ANNAS, 2, "an"), (0, 1))

    def test_a_name_told_twice_counts_twice(self):
        self.assertEqual(share(("a", "a", "b"), 1, "a"), (2, 3))
        self.assertEqual(share(("a", "a", "b"), 1, "b"), (1, 3))

    def test_like_exact_reckoning(self):
        for book in BOOKS:
            for order in ORDERS:
                for name in SMALL_NAMES + book:
                    told = share(book, order, name)
                    self.assertEqual(told, as_tuple(slow_share(book, order, name)), (book, order, name))
                    self.assertIs(type(told), tuple)
                    self.assertEqual(math.gcd(*told), 1)

    def test_made_of_the_steps(self):
        for book in LARGER_BOOKS + SMALL_BOOKS[::5]:
            for order in ORDERS:
                for name in SMALL_NAMES + book:
                    product = (1, 1)
                    for end, letter, part in steps(book, order, name):
                        product = times(product, part)
                    self.assertEqual(share(book, order, name), product)

    def test_a_book_told_over_and_over_has_the_same_shares(self):
        for book in SMALL_BOOKS[::3] + (ANNAS, ("mara", "mira", "amir"), ("ab", "ba", "b", "a")):
            for often in range(2, 8 // len(book) + 1):
                for order in ORDERS:
                    for name in SMALL_NAMES + book:
                        self.assertEqual(share(book * often, order, name), share(book, order, name))
                        self.assertEqual(steps(book * often, order, name), steps(book, order, name))


class Makes(unittest.TestCase):
    def test_told_names_are_made(self):
        for book in BOOKS:
            for order in ORDERS:
                for name in book:
                    self.assertIs(makes(book, order, name), True, (book, order, name))

    def test_whether_the_share_is_more_than_nought(self):
        for book in BOOKS:
            for order in ORDERS:
                for name in SMALL_NAMES + ("x", "abcdefgh"):
                    self.assertIs(makes(book, order, name), slow_share(book, order, name) > 0, (book, order, name))

    def test_some_by_hand(self):
        self.assertIs(makes(ANNAS, 1, "an"), True)
        self.assertIs(makes(ANNAS, 2, "an"), False)
        self.assertIs(makes(ANNAS, 1, "annnnnna"), True)
        self.assertIs(makes(ANNAS, 3, "x"), False)

    def test_each_step_stands_in_the_table(self):
        for book in LARGER_BOOKS:
            for order in ORDERS:
                rows = {end: dict(row) for end, row in table(book, order)}
                for name in SMALL_NAMES + book:
                    stands = all(letter in rows.get(end, {}) for end, letter, part in steps(book, order, name))
                    self.assertIs(makes(book, order, name), stands)


class Likelier(unittest.TestCase):
    def both_ways(self, book, order, one, other):
        told = likelier(book, order, one, other)
        self.assertEqual(likelier(book, order, other, one), told)
        return told

    def test_the_greater_share(self):
        self.assertEqual(self.both_ways(ANNAS, 1, "ann", "anna"), "ann")
        self.assertEqual(self.both_ways(ANNAS, 1, "ann", "an"), "an")
        self.assertEqual(self.both_ways(("a", "b", "b"), 1, "a", "b"), "b")
        self.assertEqual(self.both_ways(ANNAS, 2, "an", "anna"), "anna")
        self.assertEqual(self.both_ways(("zz", "zz", "a"), 2, "a", "zz"), "zz")

    def test_like_shares_by_the_alphabet(self):
        self.assertEqual(self.both_ways(("ab", "ba"), 1, "ab", "ba"), "ab")
        self.assertEqual(self.both_ways(ANNAS, 2, "ann", "anna"), "ann")
        self.assertEqual(self.both_ways(("b", "ab"), 2, "b", "ab"), "ab")

    def test_names_that_are_not_made_by_the_alphabet(self):
        self.assertEqual(self.both_ways(ANNAS, 1, "x", "y"), "x")
        self.assertEqual(self.both_ways(ANNAS, 1, "xyz", "y"), "xyz")
        self.assertEqual(self.both_ways(ANNAS, 1, "x", "xx"), "x")

    def test_the_same_name_twice(self):
        for name in ("anna", "an", "x"):
            self.assertEqual(likelier(ANNAS, 1, name, name), name)

    def test_like_exact_reckoning(self):
        for book in SMALL_BOOKS[::4] + LARGER_BOOKS:
            for order in ORDERS:
                shares = {name: slow_share(book, order, name) for name in SMALL_NAMES + book}
                for one, other in itertools.product(shares, repeat=2):
                    wanted = sorted((one, other), key=lambda name: (-shares[name], name))[0]
                    self.assertEqual(likelier(book, order, one, other), wanted, (book, order, one, other))


class Refusals(unittest.TestCase):
    def test_what_is_no_book(self):
        for thing in NO_BOOKS:
            for function in (steps, share, makes):
                self.assertIs(refusal(function, thing, 1, "a"), NoBook, repr(thing))
            self.assertIs(refusal(likelier, thing, 1, "a", "b"), NoBook, repr(thing))

    def test_what_is_no_order(self):
        for thing in NO_ORDERS + (0, 4, True, False, "1", -1, 99):
            for function in (steps, share, makes):
                self.assertIs(refusal(function, ANNAS, thing, "a"), NoOrder, repr(thing))
            self.assertIs(refusal(likelier, ANNAS, thing, "a", "b"), NoOrder, repr(thing))

    def test_what_is_no_name(self):
        for thing in NO_NAMES + ("",):
            for function in (steps, share, makes):
                self.assertIs(refusal(function, ANNAS, 1, thing), NoName, repr(thing))
            self.assertIs(refusal(likelier, ANNAS, 1, thing, "a"), NoName, repr(thing))
            self.assertIs(refusal(likelier, ANNAS, 1, "a", thing), NoName, repr(thing))
            self.assertIs(refusal(likelier, ANNAS, 1, thing, thing), NoName, repr(thing))

    def test_the_first_that_is_due(self):
        for thing in STRANGE_THINGS:
            for function in (steps, share, makes):
                self.assertIs(refusal(function, thing, thing, thing), NoBook, repr(thing))
                self.assertIs(refusal(function, thing, 1, thing), NoBook, repr(thing))
                self.assertIs(refusal(function, thing, thing, "a"), NoBook, repr(thing))
                self.assertIs(refusal(function, ANNAS, thing, thing), NoOrder, repr(thing))
            self.assertIs(refusal(likelier, thing, thing, thing, thing), NoBook, repr(thing))
            self.assertIs(refusal(likelier, thing, 1, thing, "a"), NoBook, repr(thing))
            self.assertIs(refusal(likelier, thing, 1, "a", thing), NoBook, repr(thing))
            self.assertIs(refusal(likelier, ANNAS, thing, thing, "a"), NoOrder, repr(thing))
            self.assertIs(refusal(likelier, ANNAS, thing, "a", thing), NoOrder, repr(thing))

    def test_what_is_right_is_not_refused(self):
        for book in LARGER_BOOKS:
            for order in ORDERS:
                for name in ("a", "z", "abcdefgh"):
                    for function in (steps, share, makes):
                        self.assertIsNone(refusal(function, book, order, name))
                    self.assertIsNone(refusal(likelier, book, order, name, "anna"))


if __name__ == "__main__":
    unittest.main()
