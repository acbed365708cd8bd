"""Who makes what: 0.2 (a), (c) and (f), 0.3, 6.1 and 6.2."""

import itertools
import unittest

from kinnames.books import is_book
from kinnames.errors import NoBook, NoName, NoOrder
from kinnames.shares import makes, share
from kinnames.supports import best_maker, greatest_order, makers, needed, shows
from tests.helpers import (
    EVEN_BOOK, MANY_BOOKS, NO_BOOKS, NO_BOOKSHELVES, NO_NAMES, NO_ORDERS, ORDERS, SMALL_BOOKS, SMALL_NAMES,
    STRANGE_THINGS, WIDE_BOOK, refusal, slow_made, slow_share,
)

ANNAS = ("anna", "ann")
# By order 1 the name abcd is made of three of these, or of two.
CHAIN = ("ab", "bc", "cd", "bc", "abc", "xd")
TWICE = ("ax", "xb", "ax", "xb")


def some_names(book, order):
    made = sorted(slow_made(book, order))
    return sorted(set(made[:6] + made[-6:] + made[::max(1, len(made) // 12)] + list(book) + ["x", "ab", "abab", "zz"]))


def alone(book, places):
    return tuple(book[place] for place in places)


def slow_needed(book, order, name):
    """The first of the fewest places, by a look at all names that stand at rising places."""
    for many in range(1, len(book) + 1):
        for places in itertools.combinations(range(len(book)), many):
            if slow_share(alone(book, places), order, name) > 0:
                return list(places)
    return None


def slow_shows(book, order, name, places):
    if slow_share(alone(book, places), order, name) == 0:
        return False
    fewer = [alone(book, places[:place] + places[place + 1:]) for place in range(len(places))]
    return not any(rest and slow_share(rest, order, name) > 0 for rest in fewer)


class Makers(unittest.TestCase):
    def both(self, books, order, name, places, best):
        self.assertEqual(makers(books, order, name), places)
        self.assertEqual(best_maker(books, order, name), best)

    def test_none_one_several_all(self):
        books = [("anna",), ("ann",), ("hanna", "ann"), ("xy",)]
        self.both(books, 1, "z", [], None)
        self.both(books, 1, "xy", [3], 3)
        self.both(books, 1, "anna", [0, 2], 0)
        self.both(books[:3], 1, "ann", [1, 2], 1)
        self.both([("b", "a"), ("a",), ("a", "a", "b")], 1, "a", [0, 1, 2], 1)

    def test_by_each_order(self):
        books = [ANNAS, ("ana",), ("anan", "an")]
        self.both(books, 1, "an", [0, 2], 2)
        self.both(books, 2, "an", [2], 2)
        self.both(books, 3, "an", [2], 2)
        self.both(books, 1, "ana", [0, 1], 1)
        self.both(books, 3, "ana", [1], 1)

    def test_like_shares(self):
        self.both([("a",), ("a",), ("a", "a")], 1, "a", [0, 1, 2], 0)
        self.both([("x",), ("a", "b"), ("b", "a"), ("a", "a", "b", "b")], 1, "a", [1, 2, 3], 1)
        self.both([("a", "b", "b"), ("a", "b"), ("b", "a")], 1, "a", [0, 1, 2], 1)

    def test_no_books(self):
        for order in ORDERS:
            self.both([], order, "anna", [], None)

    def test_a_later_book_with_a_greater_share(self):
        self.both([("a", "b", "c"), ("a", "b"), ("a",), ("a", "b")], 1, "a", [0, 1, 2, 3], 2)
        self.both([("a", "b", "c"), ("c",), ("b", "a", "a")], 1, "a", [0, 2], 2)

    def test_shares_that_differ_by_little(self):
        near = [("a",) * 5 + ("b",) * 3, ("a",) * 4 + ("b",) * 2, ("a",) * 2 + ("b",), ("a",) * 5 + ("b",) * 2]
        self.both(near, 1, "a", [0, 1, 2, 3], 3)
        self.both(near[:3], 1, "a", [0, 1, 2], 1)
        self.both(near[:1] + near[2:3] + near[1:2], 1, "a", [0, 1, 2], 1)

    def test_like_a_look_at_each_book(self):
        books = list(MANY_BOOKS) + list(SMALL_BOOKS[::9])
        for order in ORDERS:
            for name in SMALL_NAMES + ("anna", "maria", "axu", "axv", "abcdefgh", "z", "kit"):
                shares = [slow_share(book, order, name) for book in books]
                places = [place for place, part in enumerate(shares) if part > 0]
                best = shares.index(max(shares)) if places else None
                self.both(books, order, name, places, best)

    def test_a_new_list_each_time(self):
        books = [ANNAS, ANNAS]
        told = makers(books, 1, "an")
        told.append(5)
        self.assertEqual(makers(books, 1, "an"), [0, 1])
        self.assertEqual(books, [ANNAS, ANNAS])


class GreatestOrder(unittest.TestCase):
    def test_told_names(self):
        for book in MANY_BOOKS:
            for name in book:
                self.assertEqual(greatest_order(book, name), 3)

    def test_by_hand(self):
        self.assertEqual(greatest_order(ANNAS, "an"), 1)
        self.assertEqual(greatest_order(ANNAS, "ana"), 1)
        self.assertEqual(greatest_order(("xaby", "zabw"), "xabw"), 2)
        self.assertEqual(greatest_order(("xabcy", "zabcw"), "xabcw"), 3)
        self.assertEqual(greatest_order(EVEN_BOOK, "axv"), 1)

    def test_names_that_are_not_made(self):
        self.assertIsNone(greatest_order(ANNAS, "x"))
        self.assertIsNone(greatest_order(ANNAS, "nna"))
        self.assertIsNone(greatest_order(("aab",), "a"))

    def test_like_a_look_at_each_order(self):
        for book in MANY_BOOKS + SMALL_BOOKS[::3]:
            for name in some_names(book, 1)[:30]:
                orders = [order for order in ORDERS if slow_share(book, order, name) > 0]
                self.assertEqual(greatest_order(book, name), max(orders, default=None), (book, name))
                # With a greater order no name more is made.
                self.assertEqual(orders, list(range(1, len(orders) + 1)))


class Needed(unittest.TestCase):
    def test_by_hand(self):
        self.assertEqual(needed(CHAIN, 1, "abcd"), [2, 4])
        self.assertEqual(needed(CHAIN, 1, "bcd"), [1, 2])
        self.assertEqual(needed(CHAIN, 1, "bc"), [1])
        self.assertEqual(needed(CHAIN, 1, "abc"), [4])
        self.assertEqual(needed(("ab", "xbc", "abcx", "xd", "cd"), 1, "abcd"), [2, 4])
        self.assertEqual(needed(("ab", "bc", "aby", "ybc"), 1, "abc"), [0, 1])
        self.assertEqual(needed(EVEN_BOOK, 1, "dxu"), [0, 3])
        self.assertEqual(needed(EVEN_BOOK, 1, "axz"), [0, 4])

    def test_the_fewest_before_the_first(self):
        self.assertEqual(needed(("ab", "bc", "cd", "abcd"), 1, "abcd"), [3])
        self.assertEqual(needed(("ab", "bc", "cd", "abc"), 1, "abcd"), [2, 3])
        self.assertEqual(needed(("xaby", "zabw", "xabw"), 2, "xabw"), [2])

    def test_a_name_twice(self):
        self.assertEqual(needed(TWICE, 1, "axb"), [0, 1])
        self.assertEqual(needed(("xb", "ax", "xb", "ax"), 1, "axb"), [0, 1])
        self.assertEqual(needed(("a", "b", "a"), 1, "a"), [0])
        self.assertEqual(needed(("b", "a", "a"), 1, "a"), [1])
        self.assertEqual(needed(("a",) * 8, 3, "a"), [0])

    def test_told_names_need_one_place_alone(self):
        for book in MANY_BOOKS:
            for order in ORDERS:
                for name in book:
                    self.assertEqual(len(needed(book, order, name)), 1)

    def test_names_that_are_not_made(self):
        for order in ORDERS:
            self.assertIsNone(needed(ANNAS, order, "x"))
            self.assertIsNone(needed(("a",) * 8, order, "aa"))
        self.assertIsNone(needed(ANNAS, 2, "an"))
        self.assertIsNone(needed(EVEN_BOOK, 2, "axv"))

    def test_many_are_needed(self):
        book = ("ab", "bc", "cd", "de", "ef", "fg", "gh", "ah")
        self.assertEqual(needed(book, 1, "abcdefgh"), [0, 1, 2, 3, 4, 5, 6])
        self.assertEqual(needed(WIDE_BOOK, 1, "abcdefgg"), slow_needed(WIDE_BOOK, 1, "abcdefgg"))
        self.assertEqual(needed(WIDE_BOOK, 1, "abcdefgg"), [0, 1, 3, 4, 6, 7])

    def test_like_slow_reckoning(self):
        for book in MANY_BOOKS + SMALL_BOOKS[::5]:
            for order in ORDERS:
                for name in some_names(book, order):
                    told = needed(book, order, name)
                    self.assertEqual(told, slow_needed(book, order, name), (book, order, name))
                    self.assertIs(told is not None, makes(book, order, name))
                    if told is not None:
                        self.assertIs(shows(book, order, name, told), True)
                        self.assertTrue(makes(alone(book, told), order, name))

    def test_with_names_more_no_name_fewer(self):
        for book in MANY_BOOKS[::2]:
            for order in ORDERS:
                for more in (("a",), ("zx", "ann")):
                    if is_book(book + more):
                        for name in some_names(book, order):
                            self.assertTrue(not makes(book, order, name) or makes(book + more, order, name))

    def test_a_new_list_each_time(self):
        told = needed(CHAIN, 1, "abcd")
        told.clear()
        self.assertEqual(needed(CHAIN, 1, "abcd"), [2, 4])


class Shows(unittest.TestCase):
    def test_by_hand(self):
        for places in ([0, 1, 2], [0, 2, 3], [2, 4]):
            self.assertIs(shows(CHAIN, 1, "abcd", places), True, places)
        for places in ([0, 1], [1, 2], [0, 2], [0, 1, 2, 3], [0, 1, 2, 4], [1, 2, 4], [2, 3, 4], [4], [2], [0, 1, 5]):
            self.assertIs(shows(CHAIN, 1, "abcd", places), False, places)

    def test_one_place_alone(self):
        self.assertIs(shows(TWICE, 1, "ax", [0]), True)
        self.assertIs(shows(TWICE, 1, "ax", [2]), True)
        self.assertIs(shows(TWICE, 1, "ax", [1]), False)
        self.assertIs(shows(TWICE, 1, "ax", [0, 2]), False)
        self.assertIs(shows(("a",), 3, "a", [0]), True)

    def test_more_than_the_fewest(self):
        book = ("ab", "bc", "abc")
        self.assertEqual(needed(book, 1, "abc"), [2])
        self.assertIs(shows(book, 1, "abc", [0, 1]), True)
        self.assertIs(shows(book, 1, "abc", [0, 2]), False)
        self.assertIs(shows(book, 1, "abc", [0, 1, 2]), False)

    def test_not_rising_or_twice_or_empty(self):
        self.assertIs(shows(CHAIN, 1, "abcd", [4, 2]), False)
        self.assertIs(shows(CHAIN, 1, "abcd", [0, 2, 1]), False)
        self.assertIs(shows(CHAIN, 1, "abcd", [2, 4, 4]), False)
        self.assertIs(shows(CHAIN, 1, "abcd", [2, 2, 4]), False)
        self.assertIs(shows(("a",), 1, "a", [0, 0]), False)
        for name in ("abcd", "ab", "x"):
            self.assertIs(shows(CHAIN, 1, name, []), False)

    def test_places_beyond_the_book(self):
        for thing in ([6], [2, 4, 6], [-4, 2], [-1], [-2, -1], [4, 8], [10 ** 30], [-(10 ** 30), 2, 4], [1], [0, 1]):
            self.assertIs(shows(CHAIN, 1, "cd", thing), False, thing)
            self.assertIs(shows(CHAIN, 1, "abcd", thing), False, thing)
        self.assertIs(shows(("a",), 1, "a", [1]), False)
        self.assertIs(shows(("a",), 1, "a", [-1]), False)
        self.assertIs(shows(("a", "a"), 1, "a", [1]), True)
        self.assertIs(shows(("a", "a"), 1, "a", [2]), False)

    def test_no_lists_of_places(self):
        things = (
            (0,), (0, 1), ((0, 1),), [(0, 1)], [[0, 1]], [[0], [1]], True, False, [True], [False], [False, True],
            [False, 1], [0, True], "01", "0", ["0", "1"], ["0"], [0, "1"], None, [None], [0, None], [None, 0],
            ["", 0], [0, []], [0, ()], [(), 1], 0, 1, {}, {0: 1}, [0, [1]],
        )
        for thing in STRANGE_THINGS + things:
            if repr(thing) not in ("[0]", "[1]", "[1, 2]"):
                self.assertIs(shows(("ax", "xb"), 1, "axb", thing), False, repr(thing))
                self.assertIs(shows(("a", "a"), 1, "a", thing), False, repr(thing))
                self.assertIs(shows(("a", "a"), 1, "b", thing), False, repr(thing))
        self.assertIs(shows(("ax", "xb"), 1, "axb", [0, 1]), True)

    def test_names_that_are_not_made(self):
        for thing in (None, [], [0], [1], [0, 1]):
            self.assertIs(shows(ANNAS, 1, "x", thing), False)
            self.assertIs(shows(ANNAS, 2, "an", thing), False)

    def test_like_slow_reckoning(self):
        for book in MANY_BOOKS + SMALL_BOOKS[::23]:
            for order in ORDERS:
                for name in some_names(book, order)[::4]:
                    for many in (1, 2, 3):
                        for places in itertools.combinations(range(len(book)), many):
                            told = shows(book, order, name, list(places))
                            self.assertIs(told, slow_shows(book, order, name, places), (book, order, name, places))

    def test_the_list_stays_as_it_was(self):
        thing = [0, 1, 2]
        shows(CHAIN, 1, "abcd", thing)
        self.assertEqual(thing, [0, 1, 2])


class Refusals(unittest.TestCase):
    def test_what_is_no_list_of_books(self):
        for thing in NO_BOOKSHELVES:
            for function in (makers, best_maker):
                self.assertIs(refusal(function, thing, 1, "a"), NoBook, repr(thing))
        for thing in NO_BOOKS:
            for function in (makers, best_maker):
                self.assertIs(refusal(function, [thing], 1, "a"), NoBook, repr(thing))
                self.assertIs(refusal(function, [ANNAS, thing], 1, "a"), NoBook, repr(thing))
                self.assertIs(refusal(function, [thing, ANNAS], 1, "a"), NoBook, repr(thing))

    def test_what_is_no_book(self):
        for thing in NO_BOOKS:
            self.assertIs(refusal(greatest_order, thing, "a"), NoBook, repr(thing))
            self.assertIs(refusal(needed, thing, 1, "a"), NoBook, repr(thing))
            self.assertIs(refusal(shows, thing, 1, "a", [0]), NoBook, repr(thing))

    def test_what_is_no_order(self):
        for thing in NO_ORDERS + (0, 4, True, False, "1", -1, 99):
            for books in ([], [ANNAS]):
                self.assertIs(refusal(makers, books, thing, "a"), NoOrder, repr(thing))
                self.assertIs(refusal(best_maker, books, thing, "a"), NoOrder, repr(thing))
            self.assertIs(refusal(needed, ANNAS, thing, "a"), NoOrder, repr(thing))
            self.assertIs(refusal(shows, ANNAS, thing, "a", [0]), NoOrder, repr(thing))

    def test_what_is_no_name(self):
        for thing in NO_NAMES:
            for books in ([], [ANNAS]):
                self.assertIs(refusal(makers, books, 1, thing), NoName, repr(thing))
                self.assertIs(refusal(best_maker, books, 1, thing), NoName, repr(thing))
            self.assertIs(refusal(greatest_order, ANNAS, thing), NoName, repr(thing))
            self.assertIs(refusal(needed, ANNAS, 1, thing), NoName, repr(thing))
            self.assertIs(refusal(shows, ANNAS, 1, thing, [0]), NoName, repr(thing))
            self.assertIs(refusal(shows, ANNAS, 1, thing, None), NoName, repr(thing))

    def test_the_first_that_is_due(self):
        for thing in STRANGE_THINGS:
            for function in (makers, best_maker):
                self.assertIs(refusal(function, [thing], thing, thing), NoBook, repr(thing))
                self.assertIs(refusal(function, [thing], 1, None), NoBook, repr(thing))
                self.assertIs(refusal(function, [], thing, None), NoOrder, repr(thing))
                self.assertIs(refusal(function, [ANNAS], thing, thing), NoOrder, repr(thing))
            self.assertIs(refusal(greatest_order, thing, thing), NoBook, repr(thing))
            self.assertIs(refusal(needed, thing, thing, thing), NoBook, repr(thing))
            self.assertIs(refusal(needed, thing, 1, None), NoBook, repr(thing))
            self.assertIs(refusal(needed, ANNAS, thing, thing), NoOrder, repr(thing))
            self.assertIs(refusal(shows, thing, thing, thing, thing), NoBook, repr(thing))
            self.assertIs(refusal(shows, thing, 1, None, [0]), NoBook, repr(thing))
            self.assertIs(refusal(shows, ANNAS, thing, thing, thing), NoOrder, repr(thing))

    def test_what_is_right_is_not_refused(self):
        for book in MANY_BOOKS:
            for order in ORDERS:
                for name in ("a", "anna", "abcdefgh"):
                    self.assertIsNone(refusal(makers, [book], order, name))
                    self.assertIsNone(refusal(best_maker, [book, book], order, name))
                    self.assertIsNone(refusal(greatest_order, book, name))
                    self.assertIsNone(refusal(needed, book, order, name))
                    self.assertIsNone(refusal(shows, book, order, name, [0]))
        self.assertIsNone(refusal(makers, [ANNAS] * 30, 1, "ann"))


class Shares(unittest.TestCase):
    def test_the_best_maker_has_the_greatest_share(self):
        books = list(MANY_BOOKS)
        for order in ORDERS:
            for name in ("anna", "ab", "a", "maria", "bb"):
                best = best_maker(books, order, name)
                for place in makers(books, order, name):
                    one, other = share(books[best], order, name), share(books[place], order, name)
                    self.assertGreaterEqual(one[0] * other[1], other[0] * one[1])


if __name__ == "__main__":
    unittest.main()
