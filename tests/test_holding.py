"""The share of what is wanted: 0.2 (d), 0.3 and 4.3."""

import unittest
from fractions import Fraction

from kinnames.errors import NoBook, NoOrder, NoWish
from kinnames.holding import can_fit, share_fitting
from kinnames.lengths import all_made, share_of_length, share_up_to
from kinnames.likely import likeliest
from kinnames.shares import added, share
from kinnames.wishes import fits
from tests.helpers import (
    ALL_WANTED, EVEN_BOOK, MANY_BOOKS, NO_BOOKS, NO_ORDERS, NO_WISHES, NONE_TOLD, ORDERS, SMALL_BOOKS,
    STRANGE_THINGS, WIDE_BOOK, as_tuple, refusal, sample_wishes, slow_wanted,
)

ANNAS = ("anna", "ann")


class ByHand(unittest.TestCase):
    def held(self, book, order, wish, wanted):
        self.assertEqual(share_fitting(book, order, wish), wanted, (book, order, wish))
        self.assertIs(can_fit(book, order, wish), wanted != (0, 1), (book, order, wish))

    def test_all_names(self):
        self.held(ANNAS, 2, ALL_WANTED, (1, 1))
        self.held(("aa",), 1, ALL_WANTED, (255, 256))
        self.held(EVEN_BOOK, 1, ALL_WANTED, (1, 1))

    def test_by_length(self):
        self.held(ANNAS, 1, (1, 1, "", "", (), True), (1, 3))
        self.held(ANNAS, 1, (2, 3, "", "", (), True), (11, 36))
        self.held(("abcdefgh",), 3, (8, 8, "", "", (), True), (1, 1))
        self.held(("abcdefgh",), 3, (1, 7, "", "", (), True), (0, 1))

    def test_by_head_and_tail(self):
        self.held(EVEN_BOOK, 1, (1, 8, "a", "", (), True), (1, 5))
        self.held(EVEN_BOOK, 1, (1, 8, "", "z", (), True), (1, 5))
        self.held(EVEN_BOOK, 1, (1, 8, "ax", "xz", (), True), (1, 25))
        self.held(EVEN_BOOK, 2, (1, 8, "ax", "xz", (), True), (0, 1))
        self.held(EVEN_BOOK, 2, (1, 8, "axu", "axu", (), True), (1, 5))
        self.held(EVEN_BOOK, 1, (1, 8, "ax", "bu", (), True), (0, 1))

    def test_barred_and_told_ones(self):
        self.held(EVEN_BOOK, 1, (1, 8, "", "", ("axu", "axv", "zzz"), True), (23, 25))
        self.held(EVEN_BOOK, 1, NONE_TOLD, (4, 5))
        self.held(EVEN_BOOK, 1, (1, 8, "", "", ("axu", "axv"), False), (19, 25))
        self.held(EVEN_BOOK, 1, (1, 8, "a", "", ("axu", "bxu"), True), (4, 25))
        self.held(EVEN_BOOK, 1, (1, 8, "a", "", ("axv", "axw"), False), (2, 25))
        self.held(EVEN_BOOK, 1, (1, 2, "", "", ("axv", "axw"), False), (0, 1))
        self.held(("a", "a", "b"), 1, (1, 8, "", "", ("a",), True), (1, 3))
        self.held(("a", "a", "b"), 1, (1, 8, "", "", ("a",), False), (0, 1))

    def test_no_name(self):
        self.held(ANNAS, 2, NONE_TOLD, (0, 1))
        self.held(ANNAS, 1, (1, 8, "x", "", (), True), (0, 1))
        self.held(ANNAS, 1, (1, 8, "", "x", (), True), (0, 1))
        self.held(ANNAS, 1, (1, 2, "ann", "", (), True), (0, 1))
        self.held(ANNAS, 1, (1, 2, "", "ann", (), True), (0, 1))
        self.held(ANNAS, 1, (2, 2, "an", "na", (), True), (0, 1))
        self.held(ANNAS, 1, (1, 1, "", "", ("a",), True), (0, 1))

    def test_names_as_wanted_that_are_not_made(self):
        self.assertIs(fits(ANNAS, (1, 8, "x", "", (), True), "xa"), True)
        self.assertIs(can_fit(ANNAS, 1, (1, 8, "x", "", (), True)), False)


class Reckoned(unittest.TestCase):
    def test_like_the_sum_of_all_that_are_wanted(self):
        for book in MANY_BOOKS + SMALL_BOOKS[::13]:
            for order in ORDERS:
                for wish in sample_wishes(book):
                    pairs = slow_wanted(book, order, wish)
                    wanted = as_tuple(sum((part for part, name in pairs), Fraction(0)))
                    told = share_fitting(book, order, wish)
                    self.assertEqual(told, wanted, (book, order, wish))
                    self.assertIs(type(told), tuple)
                    self.assertIs(can_fit(book, order, wish), len(pairs) > 0, (book, order, wish))

    def test_like_the_sum_through_the_other_functions(self):
        for book in MANY_BOOKS[::2]:
            for order in ORDERS:
                shares = {
                    name: share(book, order, name) for length in range(1, 9) for name in all_made(book, order, length)
                }
                for wish in sample_wishes(book)[:12]:
                    wanted = (0, 1)
                    for name, part in shares.items():
                        if fits(book, wish, name):
                            wanted = added(wanted, part)
                    self.assertEqual(share_fitting(book, order, wish), wanted, (book, order, wish))

    def test_like_the_shares_of_lengths(self):
        for book in MANY_BOOKS + (WIDE_BOOK,):
            for order in ORDERS:
                for length in range(1, 9):
                    told = share_fitting(book, order, (length, length, "", "", (), True))
                    self.assertEqual(told, share_of_length(book, order, length))
                    told = share_fitting(book, order, (1, length, "", "", (), True))
                    self.assertEqual(told, share_up_to(book, order, length))

    def test_like_all_the_likeliest_where_they_are_few(self):
        for book in MANY_BOOKS:
            for order in ORDERS:
                for wish in sample_wishes(book):
                    told = likeliest(book, order, wish, 20)
                    self.assertIs(can_fit(book, order, wish), told != [], (book, order, wish))
                    if len(told) < 20:
                        wanted = (0, 1)
                        for part, name in told:
                            wanted = added(wanted, part)
                        self.assertEqual(share_fitting(book, order, wish), wanted, (book, order, wish))


class Refusals(unittest.TestCase):
    def test_what_is_no_book(self):
        for thing in NO_BOOKS:
            for function in (share_fitting, can_fit):
                self.assertIs(refusal(function, thing, 1, ALL_WANTED), NoBook, repr(thing))

    def test_what_is_no_order(self):
        for thing in NO_ORDERS + (0, 4, True, False, "1", -1, 99, ALL_WANTED):
            for function in (share_fitting, can_fit):
                self.assertIs(refusal(function, ANNAS, thing, ALL_WANTED), NoOrder, repr(thing))

    def test_what_is_no_wish(self):
        for thing in NO_WISHES:
            for function in (share_fitting, can_fit):
                self.assertIs(refusal(function, ANNAS, 1, thing), NoWish, repr(thing))

    def test_the_first_that_is_due(self):
        for thing in STRANGE_THINGS:
            for function in (share_fitting, can_fit):
                self.assertIs(refusal(function, thing, thing, thing), NoBook, repr(thing))
                self.assertIs(refusal(function, thing, 1, thing), NoBook, repr(thing))
                self.assertIs(refusal(function, thing, thing, ALL_WANTED), NoBook, repr(thing))
                self.assertIs(refusal(function, ANNAS, thing, thing), NoOrder, repr(thing))

    def test_what_is_right_is_not_refused(self):
        for book in MANY_BOOKS:
            for wish in sample_wishes(book):
                for order in ORDERS:
                    self.assertIsNone(refusal(share_fitting, book, order, wish))
                    self.assertIsNone(refusal(can_fit, book, order, wish))


if __name__ == "__main__":
    unittest.main()
