"""The likeliest names: 0.2 (d), 0.3 and 4.2."""

import heapq
import unittest
from fractions import Fraction

from kinnames.errors import NoBook, NoNumber, NoOrder, NoWish
from kinnames.likely import likeliest, place_of
from kinnames.shares import is_less, makes, share
from kinnames.wishes import fits
from tests.helpers import (
    ALL_WANTED, EVEN_BOOK, MANY_BOOKS, NO_BOOKS, NO_MANIES, NO_NAMES, NO_ORDERS, NO_WISHES, NONE_TOLD, ORDERS,
    STRANGE_THINGS, WIDE_BOOK, as_tuple, refusal, sample_wishes, slow_fits, slow_table, slow_wanted,
)

ANNAS = ("anna", "ann")
EVEN_NAMES = [one + "x" + other for one in "abcde" for other in "uvwyz"]
LETTERS_BOOK = ("h", "g", "f", "e", "d", "c", "b", "a")


def slow_first_ones(book, order, wish, many):
    """The likeliest ones, found by always going on from the likeliest text that is begun; for books that make much."""
    rows = dict(slow_table(book, order))
    waiting = [(Fraction(-1), "", False)]
    found = []
    while waiting:
        weight, text, ended = heapq.heappop(waiting)
        if len(found) >= many and -weight < found[many - 1][0]:
            break
        if ended:
            if slow_fits(book, wish, text):
                found.append((-weight, text))
            continue
        row = rows[text[max(0, len(text) - order):]]
        for letter, often in row:
            if letter == "" or len(text) < 8:
                part = Fraction(often, sum(count for other, count in row))
                heapq.heappush(waiting, (weight * part, text + letter, letter == ""))
    return [(as_tuple(part), name) for part, name in sorted(found, key=lambda pair: (-pair[0], pair[1]))[:many]]


class Likeliest(unittest.TestCase):
    def test_by_hand(self):
        self.assertEqual(likeliest(ANNAS, 1, ALL_WANTED, 1), [((1, 3), "a")])
        self.assertEqual(likeliest(ANNAS, 1, ALL_WANTED, 4), [
            ((1, 3), "a"), ((1, 6), "an"), ((1, 12), "ann"), ((1, 18), "ana"),
        ])
        self.assertEqual(likeliest(("a", "b", "b"), 1, ALL_WANTED, 1), [((2, 3), "b")])
        self.assertEqual(likeliest(("a", "b", "b"), 1, ALL_WANTED, 2), [((2, 3), "b"), ((1, 3), "a")])

    def test_fewer_than_are_asked_for(self):
        self.assertEqual(likeliest(ANNAS, 2, ALL_WANTED, 20), [((1, 2), "ann"), ((1, 2), "anna")])
        self.assertEqual(likeliest(("abcdefgh",), 3, ALL_WANTED, 2), [((1, 1), "abcdefgh")])
        self.assertEqual(len(likeliest(("aa",), 1, ALL_WANTED, 20)), 8)
        self.assertEqual(len(likeliest(("aa",), 1, NONE_TOLD, 20)), 7)

    def test_none(self):
        for many in (1, 20):
            self.assertEqual(likeliest(ANNAS, 2, NONE_TOLD, many), [])
            self.assertEqual(likeliest(ANNAS, 1, (1, 8, "x", "", (), True), many), [])
            self.assertEqual(likeliest(ANNAS, 1, (1, 8, "", "x", (), True), many), [])
            self.assertEqual(likeliest(ANNAS, 1, (1, 2, "ann", "", (), True), many), [])
            self.assertEqual(likeliest(ANNAS, 1, (2, 2, "an", "na", (), True), many), [])
            self.assertEqual(likeliest(ANNAS, 1, (1, 1, "", "", ("a",), True), many), [])

    def test_head_and_tail(self):
        self.assertEqual(likeliest(ANNAS, 1, (1, 3, "", "n", (), True), 20), [((1, 6), "an"), ((1, 12), "ann")])
        self.assertEqual(likeliest(ANNAS, 1, (1, 4, "an", "na", (), True), 20), [((1, 18), "ana"), ((1, 36), "anna")])
        self.assertEqual(likeliest(ANNAS, 1, (1, 8, "a", "a", (), True), 1), [((1, 3), "a")])
        self.assertEqual(likeliest(ANNAS, 1, (1, 3, "ana", "ana", (), True), 1), [((1, 18), "ana")])

    def test_barred_and_told_ones_make_room_for_others(self):
        self.assertEqual(likeliest(ANNAS, 1, (1, 8, "", "", ("a", "an"), True), 1), [((1, 12), "ann")])
        self.assertEqual(likeliest(ANNAS, 1, (1, 8, "", "", ("a", "an"), False), 1), [((1, 18), "ana")])
        barred = tuple(EVEN_NAMES[:6])
        told = likeliest(EVEN_BOOK, 1, (1, 8, "", "", barred, True), 20)
        self.assertEqual([name for part, name in told], EVEN_NAMES[6:])
        told = likeliest(EVEN_BOOK, 1, (1, 8, "", "", barred, False), 20)
        self.assertEqual([name for part, name in told], [name for name in EVEN_NAMES[6:] if name not in EVEN_BOOK])

    def test_fourteen_left_out_before_all_others(self):
        book = ("a",) * 8
        self.assertEqual(likeliest(book, 1, NONE_TOLD, 20), [])
        book = ("aaaaaaaa", "aaaaaaaa", "aaaaaaa", "aaaaaa", "aaaaa", "aaaa", "aaa", "ab")
        wish = (1, 8, "", "", ("a", "aa", "aab", "ab", "b", "ba"), False)
        for many in (1, 2, 20):
            wanted = [(as_tuple(part), name) for part, name in slow_wanted(book, 1, wish)[:many]]
            self.assertEqual(likeliest(book, 1, wish, many), wanted)

    def test_like_shares_by_the_alphabet(self):
        for many in range(1, 21):
            told = likeliest(EVEN_BOOK, 1, ALL_WANTED, many)
            self.assertEqual(told, [((1, 25), name) for name in EVEN_NAMES[:many]])
        for order in ORDERS:
            for many in range(1, 9):
                told = likeliest(LETTERS_BOOK, order, ALL_WANTED, many)
                self.assertEqual(told, [((1, 8), letter) for letter in "abcdefgh"[:many]])

    def test_like_shares_of_other_lengths_by_the_alphabet(self):
        book = ("c", "bcdefghi", "ba", "ca")
        wanted = [((1, 4), "ba"), ((1, 4), "bcdefghi"), ((1, 4), "c"), ((1, 4), "ca")]
        for many in (1, 2, 3, 4, 20):
            self.assertEqual(likeliest(book, 3, ALL_WANTED, many), wanted[:many])

    def test_like_slow_reckoning(self):
        for book in MANY_BOOKS:
            for order in ORDERS:
                for wish in sample_wishes(book):
                    wanted = [(as_tuple(part), name) for part, name in slow_wanted(book, order, wish)]
                    for many in (1, 3, 20):
                        told = likeliest(book, order, wish, many)
                        self.assertEqual(told, wanted[:many], (book, order, wish, many))

    def test_of_a_book_that_makes_millions(self):
        for wish in (ALL_WANTED, NONE_TOLD, (1, 8, "a", "", (), True), (1, 5, "", "gd", ("agd",), True)):
            for many in (1, 20):
                told = likeliest(WIDE_BOOK, 1, wish, many)
                self.assertEqual(told, slow_first_ones(WIDE_BOOK, 1, wish, many), (wish, many))

    def test_kinds(self):
        told = likeliest(ANNAS, 1, ALL_WANTED, 20)
        self.assertIs(type(told), list)
        self.assertEqual(len(told), 20)
        for pair in told:
            self.assertIs(type(pair), tuple)
            self.assertIs(type(pair[0]), tuple)
            self.assertIs(type(pair[1]), str)

    def test_with_more_asked_the_first_ones_are_the_same(self):
        for book in MANY_BOOKS[::2] + (WIDE_BOOK,):
            for order in ORDERS:
                for wish in (ALL_WANTED, NONE_TOLD, (2, 6, book[0][:1], "", (), True)):
                    most = likeliest(book, order, wish, 20)
                    for many in range(1, 20):
                        self.assertEqual(likeliest(book, order, wish, many), most[:many], (book, order, wish, many))

    def test_as_wanted_in_their_order_with_their_shares(self):
        for book in MANY_BOOKS + (WIDE_BOOK,):
            for order in ORDERS:
                for wish in sample_wishes(book)[:10]:
                    told = likeliest(book, order, wish, 20)
                    for part, name in told:
                        self.assertIs(fits(book, wish, name), True)
                        self.assertIs(makes(book, order, name), True)
                        self.assertEqual(share(book, order, name), part)
                    for one, other in zip(told, told[1:]):
                        self.assertTrue(is_less(other[0], one[0]) or (one[0] == other[0] and one[1] < other[1]))

    def test_a_new_list_each_time(self):
        for wish in (ALL_WANTED, NONE_TOLD):
            told = likeliest(ANNAS, 1, wish, 5)
            kept = list(told)
            told.append("more")
            told[0] = None
            self.assertEqual(likeliest(ANNAS, 1, wish, 5), kept)
            told.clear()
            self.assertEqual(likeliest(ANNAS, 1, wish, 5), kept)


class Places(unittest.TestCase):
    def test_from_the_first_to_the_twentieth_and_behind(self):
        for place, name in enumerate(EVEN_NAMES, start=1):
            self.assertEqual(place_of(EVEN_BOOK, 1, ALL_WANTED, name), place if place <= 20 else None, name)

    def test_by_hand(self):
        self.assertEqual(place_of(ANNAS, 1, ALL_WANTED, "a"), 1)
        self.assertEqual(place_of(ANNAS, 1, ALL_WANTED, "ann"), 3)
        self.assertEqual(place_of(ANNAS, 1, NONE_TOLD, "ana"), 3)
        self.assertEqual(place_of(ANNAS, 1, (3, 8, "", "", (), True), "ann"), 1)
        self.assertIs(type(place_of(ANNAS, 1, ALL_WANTED, "a")), int)

    def test_names_that_are_not_made(self):
        for order in ORDERS:
            for name in ("x", "xanna", "n", "abcdefgh"):
                self.assertIsNone(place_of(ANNAS, order, ALL_WANTED, name))
        self.assertIsNone(place_of(ANNAS, 2, ALL_WANTED, "an"))

    def test_names_that_are_not_as_wanted(self):
        self.assertIsNone(place_of(ANNAS, 1, NONE_TOLD, "ann"))
        self.assertIsNone(place_of(ANNAS, 1, (1, 8, "", "", ("a",), True), "a"))
        self.assertIsNone(place_of(ANNAS, 1, (2, 8, "", "", (), True), "a"))
        self.assertIsNone(place_of(ANNAS, 1, (1, 8, "", "n", (), True), "a"))
        self.assertIsNone(place_of(ANNAS, 1, (1, 8, "an", "", (), True), "a"))

    def test_what_is_no_name_is_not_there(self):
        for thing in NO_NAMES:
            self.assertIsNone(place_of(ANNAS, 1, ALL_WANTED, thing), repr(thing))

    def test_like_slow_reckoning(self):
        for book in MANY_BOOKS:
            for order in ORDERS:
                for wish in (ALL_WANTED, NONE_TOLD, (2, 6, book[0][:1], "", (), True)):
                    names = [name for part, name in slow_wanted(book, order, wish)]
                    for name in sorted(set(names[:3] + names[17:24] + list(book) + ["x"])):
                        wanted = names.index(name) + 1 if name in names[:20] else None
                        self.assertEqual(place_of(book, order, wish, name), wanted, (book, order, wish, name))


class Refusals(unittest.TestCase):
    def test_what_is_no_book(self):
        for thing in NO_BOOKS:
            self.assertIs(refusal(likeliest, thing, 1, ALL_WANTED, 1), NoBook, repr(thing))
            self.assertIs(refusal(place_of, thing, 1, ALL_WANTED, "a"), NoBook, repr(thing))

    def test_what_is_no_order(self):
        for thing in NO_ORDERS + (0, 4, True, False, "1", -1, 99, ALL_WANTED):
            self.assertIs(refusal(likeliest, ANNAS, thing, ALL_WANTED, 1), NoOrder, repr(thing))
            self.assertIs(refusal(place_of, ANNAS, thing, ALL_WANTED, "a"), NoOrder, repr(thing))

    def test_what_is_no_wish(self):
        for thing in NO_WISHES:
            self.assertIs(refusal(likeliest, ANNAS, 1, thing, 1), NoWish, repr(thing))
            self.assertIs(refusal(place_of, ANNAS, 1, thing, "a"), NoWish, repr(thing))

    def test_what_is_no_number(self):
        for thing in NO_MANIES:
            for wish in (ALL_WANTED, (1, 8, "x", "", (), True)):
                self.assertIs(refusal(likeliest, ANNAS, 1, wish, thing), NoNumber, repr(thing))

    def test_the_first_that_is_due(self):
        for thing in STRANGE_THINGS:
            for function in (likeliest, place_of):
                self.assertIs(refusal(function, thing, thing, thing, thing), NoBook, repr(thing))
                self.assertIs(refusal(function, thing, 1, ALL_WANTED, 0), NoBook, repr(thing))
                self.assertIs(refusal(function, thing, 1, thing, 1), NoBook, repr(thing))
                self.assertIs(refusal(function, ANNAS, thing, thing, thing), NoOrder, repr(thing))
                self.assertIs(refusal(function, ANNAS, thing, ALL_WANTED, 0), NoOrder, repr(thing))
                self.assertIs(refusal(function, ANNAS, 1, thing, thing), NoWish, repr(thing))
                self.assertIs(refusal(function, ANNAS, 1, thing, 0), NoWish, repr(thing))

    def test_what_is_right_is_not_refused(self):
        for wish in sample_wishes(ANNAS):
            for order in ORDERS:
                for many in range(1, 21):
                    self.assertIsNone(refusal(likeliest, ANNAS, order, wish, many))
                for name in ("a", "anna", "abcdefgh"):
                    self.assertIsNone(refusal(place_of, ANNAS, order, wish, name))


if __name__ == "__main__":
    unittest.main()
