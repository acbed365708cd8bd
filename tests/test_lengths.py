"""Lengths: 0.2 (b) and (c), 0.3 and 3.1."""

import itertools
import unittest
from fractions import Fraction

from kinnames.errors import NoBook, NoNumber, NoOrder
from kinnames.lengths import all_made, how_many, lengths, share_of_length, share_up_to
from kinnames.shares import added, makes, share
from tests.helpers import (
    EVEN_BOOK, LARGER_BOOKS, MANY_BOOKS, NO_BOOKS, NO_LENGTHS, NO_ORDERS, ORDERS, ROUND_BOOKS, SMALL_BOOKS,
    STRAIGHT_BOOKS, STRANGE_THINGS, WIDE_BOOK, as_tuple, refusal, slow_made, slow_share, slow_table,
)

ANNAS = ("anna", "ann")
LENGTHS = range(1, 9)
BY_LENGTH = (how_many, share_of_length, share_up_to, all_made)

BOOKS_OF_TWO_LETTERS = (("ab",), ("ba", "b"), ("aab", "b"), ("abba", "baab"), ("bbbb", "abbb", "a"), ("aaaaaaaa",))
TEXTS_OF_TWO_LETTERS = tuple(
    "".join(letters) for length in LENGTHS for letters in itertools.product("ab", repeat=length)
)


def goes_round(book, order):
    """Whether some end can be come to again from itself."""
    ends = {end: [(end + letter)[-order:] for letter, often in row if letter] for end, row in slow_table(book, order)}
    for start in ends:
        reached = list(ends[start])
        for end in reached:
            reached.extend(other for other in ends[end] if other not in reached)
        if start in reached:
            return True
    return False


class Samples(unittest.TestCase):
    def test_of_both_sorts(self):
        for book in ROUND_BOOKS:
            self.assertTrue(any(goes_round(book, order) for order in ORDERS), book)
        for book in STRAIGHT_BOOKS:
            self.assertFalse(any(goes_round(book, order) for order in ORDERS), book)


class ByHand(unittest.TestCase):
    def test_how_many_with_ways_that_go_round(self):
        self.assertEqual([how_many(ANNAS, 1, length) for length in LENGTHS], [1, 1, 2, 3, 5, 8, 13, 21])
        self.assertEqual([how_many(("aa",), 1, length) for length in LENGTHS], [1] * 8)
        self.assertEqual([how_many(("ab", "ba"), 1, length) for length in LENGTHS], [2] * 8)
        self.assertEqual([how_many(("aaaa",), 3, length) for length in LENGTHS], [0, 0, 1, 1, 1, 1, 1, 1])

    def test_how_many_with_ways_that_do_not(self):
        for order in (2, 3):
            self.assertEqual([how_many(ANNAS, order, length) for length in LENGTHS], [0, 0, 1, 1, 0, 0, 0, 0])
        self.assertEqual([how_many(EVEN_BOOK, 1, length) for length in LENGTHS], [0, 0, 25, 0, 0, 0, 0, 0])
        self.assertEqual([how_many(EVEN_BOOK, 2, length) for length in LENGTHS], [0, 0, 5, 0, 0, 0, 0, 0])

    def test_of_lengths_1_and_8(self):
        for order in ORDERS:
            self.assertEqual(how_many(("abcdefgh",), order, 8), 1)
            self.assertEqual(how_many(("abcdefgh",), order, 1), 0)
            self.assertEqual(how_many(("a", "b", "a"), order, 1), 2)
            self.assertEqual(how_many(("a", "b", "a"), order, 8), 0)
            self.assertEqual(all_made(("abcdefgh",), order, 8), ["abcdefgh"])
            self.assertEqual(all_made(("abcdefgh",), order, 1), [])
            self.assertEqual(all_made(("b", "a", "b"), order, 1), ["a", "b"])
            self.assertEqual(all_made(("b", "a", "b"), order, 8), [])
            self.assertEqual(share_of_length(("abcdefgh",), order, 8), (1, 1))
            self.assertEqual(share_of_length(("abcdefgh",), order, 1), (0, 1))
            self.assertEqual(share_up_to(("abcdefgh",), order, 7), (0, 1))
            self.assertEqual(share_up_to(("abcdefgh",), order, 8), (1, 1))
            self.assertEqual(share_up_to(("a",), order, 1), (1, 1))

    def test_a_name_told_twice_is_one_name(self):
        self.assertEqual(how_many(("ab", "ab", "a"), 1, 2), 1)
        self.assertEqual(all_made(("ab", "ab", "a"), 1, 2), ["ab"])
        self.assertEqual(share_of_length(("ab", "ab", "a"), 1, 2), (2, 3))
        self.assertEqual(share_of_length(("ab", "ab", "a"), 1, 1), (1, 3))

    def test_shares_with_ways_that_go_round(self):
        for length in LENGTHS:
            self.assertEqual(share_of_length(("aa",), 1, length), (1, 2 ** length))
            self.assertEqual(share_up_to(("aa",), 1, length), (2 ** length - 1, 2 ** length))
        # a: 1/3; an: 2/3 * 1/4; ana: 2/3 * 1/4 * 1/3; ann: 2/3 * 1/2 * 1/4.
        self.assertEqual(share_of_length(ANNAS, 1, 1), (1, 3))
        self.assertEqual(share_of_length(ANNAS, 1, 2), (1, 6))
        self.assertEqual(share_of_length(ANNAS, 1, 3), (5, 36))
        self.assertEqual([share_up_to(ANNAS, 1, length) for length in (1, 2, 3)], [(1, 3), (1, 2), (23, 36)])

    def test_shares_with_ways_that_do_not(self):
        for length, of_length, up_to in (
            (2, (0, 1), (0, 1)), (3, (1, 2), (1, 2)), (4, (1, 2), (1, 1)), (5, (0, 1), (1, 1)),
        ):
            self.assertEqual(share_of_length(ANNAS, 2, length), of_length)
            self.assertEqual(share_up_to(ANNAS, 2, length), up_to)
        self.assertEqual(share_up_to(("a", "bb", "bb"), 2, 1), (1, 3))
        self.assertEqual(share_up_to(("a", "bb", "bb"), 2, 2), (1, 1))

    def test_all_made(self):
        self.assertEqual(all_made(ANNAS, 1, 3), ["ana", "ann"])
        self.assertEqual(all_made(ANNAS, 1, 4), ["anan", "anna", "annn"])
        self.assertEqual(all_made(ANNAS, 2, 4), ["anna"])
        self.assertEqual(all_made(ANNAS, 2, 5), [])
        self.assertEqual(all_made(("ba", "ab"), 1, 3), ["aba", "bab"])
        self.assertEqual(all_made(EVEN_BOOK, 1, 3), [one + "x" + other for one in "abcde" for other in "uvwyz"])
        self.assertEqual(all_made(EVEN_BOOK, 3, 3), list(EVEN_BOOK))

    def test_lengths(self):
        self.assertEqual(lengths(ANNAS, 1), [1, 2, 3, 4, 5, 6, 7, 8])
        self.assertEqual(lengths(ANNAS, 2), [3, 4])
        self.assertEqual(lengths(("aaaa",), 3), [3, 4, 5, 6, 7, 8])
        self.assertEqual(lengths(("abab",), 1), [2, 4, 6, 8])
        for order in ORDERS:
            self.assertEqual(lengths(("a",), order), [1])
            self.assertEqual(lengths(("abcdefgh",), order), [8])
            self.assertEqual(lengths(("abcdefgh", "i"), order), [1, 8])

    def test_a_book_that_makes_millions(self):
        # Six letters begin and six end its names, and between them each of seven stands behind each.
        for length in range(2, 9):
            self.assertEqual(how_many(WIDE_BOOK, 1, length), 36 * 7 ** (length - 2))
        self.assertEqual(how_many(WIDE_BOOK, 1, 1), 6)
        self.assertEqual(lengths(WIDE_BOOK, 1), list(LENGTHS))
        self.assertEqual(len(all_made(WIDE_BOOK, 1, 5)), 36 * 7 ** 3)


class Reckoned(unittest.TestCase):
    def held_against(self, book, order, shares):
        for length in LENGTHS:
            made = sorted(name for name in shares if len(name) == length)
            told = all_made(book, order, length)
            self.assertEqual(told, made, (book, order, length))
            self.assertIs(type(told), list)
            many = how_many(book, order, length)
            self.assertEqual(many, len(made), (book, order, length))
            self.assertIs(type(many), int)
            of_length = sum((shares[name] for name in made), Fraction(0))
            up_to = sum((part for name, part in shares.items() if len(name) <= length), Fraction(0))
            self.assertEqual(share_of_length(book, order, length), as_tuple(of_length), (book, order, length))
            self.assertEqual(share_up_to(book, order, length), as_tuple(up_to), (book, order, length))
            self.assertIs(type(share_of_length(book, order, length)), tuple)
            self.assertIs(type(share_up_to(book, order, length)), tuple)
        told = lengths(book, order)
        self.assertEqual(told, sorted({len(name) for name in shares}), (book, order))
        self.assertIs(type(told), list)

    def test_through_all_texts_of_two_letters(self):
        for book in BOOKS_OF_TWO_LETTERS:
            for order in ORDERS:
                shares = {text: slow_share(book, order, text) for text in TEXTS_OF_TWO_LETTERS}
                shares = {text: part for text, part in shares.items() if part > 0}
                self.assertEqual(shares, slow_made(book, order))
                self.held_against(book, order, shares)

    def test_through_all_names_that_are_made(self):
        for book in MANY_BOOKS + SMALL_BOOKS[::11]:
            for order in ORDERS:
                self.held_against(book, order, slow_made(book, order))


class TheWhole(unittest.TestCase):
    def test_shares_of_all_made_come_to_those_of_lengths(self):
        for book in MANY_BOOKS:
            for order in ORDERS:
                up_to = (0, 1)
                for length in LENGTHS:
                    of_length = (0, 1)
                    for name in all_made(book, order, length):
                        self.assertIs(makes(book, order, name), True)
                        of_length = added(of_length, share(book, order, name))
                    up_to = added(up_to, of_length)
                    self.assertEqual(share_of_length(book, order, length), of_length, (book, order, length))
                    self.assertEqual(share_up_to(book, order, length), up_to, (book, order, length))

    def test_a_book_told_over_and_over_has_the_same_shares(self):
        for book in SMALL_BOOKS[::9] + (ANNAS, ("aab", "b"), ("mara", "mira", "amir")):
            for often in range(2, 8 // len(book) + 1):
                for order in ORDERS:
                    for length in (1, 3, 8):
                        for function in BY_LENGTH:
                            told = function(book * often, order, length)
                            self.assertEqual(told, function(book, order, length), (book, often, order, length))

    def test_with_a_greater_order_no_name_more(self):
        for book in MANY_BOOKS + SMALL_BOOKS[::5]:
            for length in LENGTHS:
                for order in (1, 2):
                    fewer = set(all_made(book, order + 1, length))
                    self.assertLessEqual(fewer, set(all_made(book, order, length)), (book, order, length))
                    self.assertLessEqual(how_many(book, order + 1, length), how_many(book, order, length))
                    self.assertLessEqual(set(lengths(book, order + 1)), set(lengths(book, order)))

    def test_each_told_name_is_among_all(self):
        for book in MANY_BOOKS + LARGER_BOOKS:
            for order in ORDERS:
                for name in book:
                    self.assertIn(name, all_made(book, order, len(name)))
                    self.assertIn(len(name), lengths(book, order))

    def test_a_new_list_each_time(self):
        for order in ORDERS:
            for told, again in (
                (all_made(ANNAS, order, 3), lambda: all_made(ANNAS, order, 3)),
                (all_made(ANNAS, order, 8), lambda: all_made(ANNAS, order, 8)),
                (lengths(ANNAS, order), lambda: lengths(ANNAS, order)),
            ):
                kept = list(told)
                told.append("more")
                told[0] = None
                self.assertEqual(again(), kept)
                told.clear()
                self.assertEqual(again(), kept)


class Refusals(unittest.TestCase):
    def test_what_is_no_book(self):
        for thing in NO_BOOKS:
            for function in BY_LENGTH:
                self.assertIs(refusal(function, thing, 1, 1), NoBook, repr(thing))
            self.assertIs(refusal(lengths, thing, 1), NoBook, repr(thing))

    def test_what_is_no_order(self):
        for thing in NO_ORDERS + (0, 4, True, False, "1", -1, 99):
            for function in BY_LENGTH:
                self.assertIs(refusal(function, ANNAS, thing, 1), NoOrder, repr(thing))
            self.assertIs(refusal(lengths, ANNAS, thing), NoOrder, repr(thing))

    def test_what_is_no_length(self):
        for thing in NO_LENGTHS:
            for function in BY_LENGTH:
                self.assertIs(refusal(function, ANNAS, 1, thing), NoNumber, repr(thing))

    def test_the_first_that_is_due(self):
        for thing in STRANGE_THINGS:
            for function in BY_LENGTH:
                self.assertIs(refusal(function, thing, thing, thing), NoBook, repr(thing))
                self.assertIs(refusal(function, thing, 1, 0), NoBook, repr(thing))
                self.assertIs(refusal(function, thing, thing, 1), NoBook, repr(thing))
                self.assertIs(refusal(function, ANNAS, thing, 0), NoOrder, repr(thing))
                self.assertIs(refusal(function, ANNAS, thing, thing), NoOrder, repr(thing))
            self.assertIs(refusal(lengths, thing, thing), NoBook, repr(thing))

    def test_what_is_right_is_not_refused(self):
        for book in LARGER_BOOKS:
            for order in ORDERS:
                for length in LENGTHS:
                    for function in BY_LENGTH:
                        self.assertIsNone(refusal(function, book, order, length))
                self.assertIsNone(refusal(lengths, book, order))


if __name__ == "__main__":
    unittest.main()
