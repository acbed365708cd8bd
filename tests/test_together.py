"""Books held together: 0.2 (h), 0.3, 9.1, 9.2 and 9.3."""

import itertools
import unittest
from fractions import Fraction

from kinnames.books import is_book, table
from kinnames.errors import NoBook, NoName, NoOrder
from kinnames.shares import makes
from kinnames.together import best_for, lacking, makes_all, mixed, shared_ends
from tests.helpers import (
    EVEN_BOOK, MANY_BOOKS, NO_BOOKS, NO_BOOKSHELVES, NO_NAMES, NO_ORDERS, ORDERS, SMALL_BOOKS, STRANGE_THINGS,
    WIDE_BOOK, refusal, slow_made, slow_share, slow_table, ten_deep,
)

ANNAS = ("anna", "ann")
NO_LISTS_OF_NAMES = (
    None, 0, 1, True, False, "", "anna", "an", (), ("anna",), ("anna", "ann"), [""], ["anna", ""], ["Anna"],
    ["anna", "Ann"], ["abcdefghi"], ["anna", "abcdefghi"], [None], ["anna", None], [1], [True], ["anna", 1], [["anna"]],
    [("anna",)], ["anna", ["ann"]], ["anna", ("ann",)], [[]], [()], ["an na"], ["anna\n"], ten_deep("anna", list),
    ten_deep("anna", tuple),
)


SHORT_BOOKS = (("aa",), ("ab", "ba"), ("a",), ("zz", "an"), ("mana",))


def slow_lacking(one, other, order):
    names = [name for name in slow_made(other, order) if slow_share(one, order, name) == 0]
    return min(names, key=lambda name: (len(name), name), default=None)


class Mixed(unittest.TestCase):
    def test_by_hand(self):
        self.assertEqual(mixed(("anna",), ("ann",)), ("anna", "ann"))
        self.assertEqual(mixed(("b", "a"), ("a", "c")), ("b", "a", "a", "c"))
        self.assertEqual(mixed(("a",), ("a",)), ("a", "a"))
        self.assertIs(type(mixed(("a",), ("b",))), tuple)

    def test_up_to_eight_names(self):
        for many in range(1, 8):
            one, other = ("a",) * many, ("b",) * (8 - many)
            self.assertEqual(mixed(one, other), one + other)
            self.assertEqual(mixed(one, other[1:] or other), one + (other[1:] or other))

    def test_more_than_eight_names(self):
        for many in range(1, 9):
            self.assertIs(refusal(mixed, ("a",) * many, ("b",) * (9 - many)), NoBook)
        self.assertIs(refusal(mixed, ("a",) * 8, ("a",) * 8), NoBook)

    def test_mixed_books_make_what_both_make(self):
        for one, other in itertools.product(MANY_BOOKS, repeat=2):
            if len(one + other) <= 8:
                for order in ORDERS:
                    self.assertIs(makes_all(mixed(one, other), one, order), True)
                    self.assertIs(makes_all(mixed(one, other), other, order), True)
                    self.assertIsNone(lacking(mixed(one, other), one, order))


class SharedEnds(unittest.TestCase):
    def test_by_hand(self):
        self.assertEqual(shared_ends(("ab",), ("ba",), 1), ["", "a", "b"])
        self.assertEqual(shared_ends(("ab",), ("ba",), 2), [""])
        self.assertEqual(shared_ends(("ab",), ("ac",), 2), ["", "a"])
        self.assertEqual(shared_ends(("ab",), ("cd",), 1), [""])
        self.assertEqual(shared_ends(ANNAS, ("hanna",), 1), ["", "a", "n"])
        self.assertEqual(shared_ends(ANNAS, ("hanna",), 2), ["", "an", "na", "nn"])
        self.assertEqual(shared_ends(ANNAS, ("hanna",), 3), ["", "ann", "nna"])

    def test_none_but_the_empty_text(self):
        for order in ORDERS:
            self.assertEqual(shared_ends(("ab", "b"), ("xy", "zx"), order), [""])

    def test_a_book_and_itself(self):
        for book in MANY_BOOKS:
            for order in ORDERS:
                self.assertEqual(shared_ends(book, book, order), [end for end, row in table(book, order)])

    def test_like_a_look_at_both_tables(self):
        for one, other in itertools.product(MANY_BOOKS + SMALL_BOOKS[::20], repeat=2):
            for order in ORDERS:
                ends = {end for end, row in slow_table(one, order)} & {end for end, row in slow_table(other, order)}
                self.assertEqual(shared_ends(one, other, order), sorted(ends))
                self.assertEqual(shared_ends(other, one, order), sorted(ends))

    def test_a_new_list_each_time(self):
        told = shared_ends(ANNAS, ANNAS, 1)
        told.clear()
        self.assertEqual(shared_ends(ANNAS, ANNAS, 1), ["", "a", "n"])


class Lacking(unittest.TestCase):
    def both(self, one, other, order, wanted):
        self.assertEqual(lacking(one, other, order), wanted, (one, other, order))
        self.assertIs(makes_all(one, other, order), wanted is None, (one, other, order))

    def test_by_hand(self):
        self.both(("anna",), ("ann",), 1, "an")
        self.both(("ann",), ("anna",), 1, "a")
        self.both(ANNAS, ("anna",), 1, None)
        self.both(("ab", "bc"), ("abc",), 1, None)
        self.both(("abc",), ("ab", "bc"), 1, "b")
        self.both(("abc",), ("ab", "bc"), 2, "ab")
        self.both(("a",), ("b",), 1, "b")
        self.both(("a",), ("ab",), 1, "ab")
        self.both(("x",), ("zz", "yy", "c"), 2, "c")
        self.both(("x",), ("zz", "yy"), 2, "yy")

    def test_the_shortest_before_the_first_in_the_alphabet(self):
        self.both(("x",), ("aaaa", "b"), 3, "b")
        self.both(("b",), ("aaaa", "b", "cc", "ca"), 3, "ca")
        self.both(("x",), ("cab", "cba", "bca"), 3, "bca")

    def test_a_first_in_the_alphabet_that_is_made(self):
        self.both(("aa", "ab"), ("ab", "aa", "ba", "bb"), 2, "ba")
        self.both(("ab", "cd", "ad"), ("ab", "cd", "ad", "cb"), 2, "cb")
        self.both(("abc", "x"), ("abc", "abd", "abb"), 3, "abb")

    def test_the_end_alone_is_lacking(self):
        self.both(("aab",), ("aab", "aa"), 1, "a")
        self.both(("aab",), ("aab", "aa"), 2, "aa")
        self.both(("abcdefgh",), ("abcdefgh", "abcd"), 3, "abcd")

    def test_a_book_and_itself(self):
        for book in MANY_BOOKS + SMALL_BOOKS + (WIDE_BOOK,):
            for order in ORDERS:
                self.both(book, book, order, None)
                self.both(book, book[:1], order, None)
                self.both(book[::-1], book, order, None)

    def test_longer_names_alone(self):
        self.both(("abcdefgh", "z"), ("abcdefgh", "z"), 1, None)
        self.both(("abcdefg",), ("abcdefgh",), 3, "abcdefgh")
        self.both(("aaaaaaa",), ("aaaaaaaa",), 3, None)
        self.both(("abcdefgx",), ("abcdefgh",), 2, "abcdefgh")

    def test_nothing_is_lacking_where_each_told_name_is_made(self):
        for one, other in itertools.product(MANY_BOOKS + (WIDE_BOOK,), repeat=2):
            for order in ORDERS:
                self.assertIs(makes_all(one, other, order), all(makes(one, order, name) for name in other))

    def test_ways_that_go_round(self):
        self.both(("aa",), ("aaa",), 2, "aaa")
        self.both(("aaa",), ("aa",), 1, None)
        self.both(("aaa",), ("aaaa",), 2, None)
        self.both(("aaa",), ("aaaa",), 3, "aaaa")
        self.both(("abab",), ("ababab",), 2, None)
        self.both(("abab",), ("baba",), 1, "ba")
        self.both(("aaaab",), ("aab",), 2, None)
        self.both(("aaaab",), ("aab",), 3, "aab")
        self.both(("aab",), ("aaaab",), 2, "aaab")

    def test_like_slow_reckoning(self):
        for one, other in itertools.product(MANY_BOOKS, MANY_BOOKS):
            for order in ORDERS:
                self.both(one, other, order, slow_lacking(one, other, order))

    def test_like_slow_reckoning_of_small_books(self):
        for one, other in itertools.product(SMALL_BOOKS[::6], SMALL_BOOKS[::7]):
            for order in ORDERS:
                self.both(one, other, order, slow_lacking(one, other, order))

    def test_a_book_and_a_mixed_one(self):
        for one, other in itertools.product(MANY_BOOKS, SHORT_BOOKS):
            both = one + other
            if is_book(both):
                for order in ORDERS:
                    self.both(both, one, order, None)
                    self.both(both, other, order, None)
                    self.both(one, both, order, slow_lacking(one, both, order))

    def test_a_wide_book(self):
        # These make millions of names, which a look at each of them would not get through.
        self.both(WIDE_BOOK, WIDE_BOOK[:7], 1, None)
        self.both(WIDE_BOOK[:7], WIDE_BOOK, 1, "g")
        self.both(EVEN_BOOK, WIDE_BOOK, 1, "a")


class BestFor(unittest.TestCase):
    def test_no_books(self):
        for names in ([], ["anna"], ["a", "b"]):
            self.assertIsNone(best_for([], 1, names))

    def test_no_names(self):
        for order in ORDERS:
            self.assertEqual(best_for([ANNAS], order, []), 0)
            self.assertEqual(best_for([("a",), ANNAS, EVEN_BOOK], order, []), 0)

    def test_one_book(self):
        self.assertEqual(best_for([ANNAS], 1, ["an", "ana"]), 0)
        self.assertIsNone(best_for([ANNAS], 2, ["an"]))
        self.assertIsNone(best_for([ANNAS], 1, ["an", "x"]))

    def test_by_hand(self):
        books = [("a", "b", "c"), ("a", "b"), ("a",), ("b", "b", "a")]
        self.assertEqual(best_for(books, 1, ["a"]), 2)
        self.assertEqual(best_for(books, 1, ["b"]), 3)
        self.assertEqual(best_for(books, 1, ["a", "b"]), 1)
        self.assertEqual(best_for(books, 1, ["b", "a"]), 1)
        self.assertEqual(best_for(books, 1, ["a", "b", "c"]), 0)
        self.assertIsNone(best_for(books, 1, ["a", "d"]))
        self.assertIsNone(best_for(books[2:], 1, ["c", "a"]))

    def test_a_name_twice(self):
        books = [("a", "b"), ("b", "b", "a"), ("a", "a", "b")]
        self.assertEqual(best_for(books, 1, ["a", "b"]), 0)
        self.assertEqual(best_for(books, 1, ["a", "b", "b"]), 1)
        self.assertEqual(best_for(books, 1, ["b", "a", "b"]), 1)
        self.assertEqual(best_for(books, 1, ["a", "b", "a"]), 2)

    def test_like_products(self):
        self.assertEqual(best_for([("x",), ("a", "b", "b"), ("b", "a", "a")], 1, ["a", "b"]), 1)
        self.assertEqual(best_for([("b", "a", "a"), ("a", "b", "b")], 1, ["b", "a"]), 0)
        self.assertEqual(best_for([("a",), ("a", "a")], 3, ["a", "a"]), 0)

    def test_like_slow_reckoning(self):
        books = list(MANY_BOOKS) + list(SMALL_BOOKS[::11])
        lists = [["a"], ["anna", "an"], ["b", "a"], ["ab", "ba", "ab"], ["maria", "mara"], ["axu", "axv"], ["aa"] * 5,
                 ["a", "aa", "aaa"], ["abab", "aba"], ["z", "zz"], ["kim"], ["abcdefgh", "h"], ["bb", "aab", "b"]]
        for order in ORDERS:
            for names in lists:
                products = []
                for book in books:
                    product = Fraction(1)
                    for name in names:
                        product *= slow_share(book, order, name)
                    products.append(product)
                wanted = products.index(max(products)) if max(products) > 0 else None
                self.assertEqual(best_for(books, order, names), wanted, (order, names))
                self.assertEqual(best_for(books, order, names[::-1]), wanted, (order, names))

    def test_what_is_handed_in_stays_as_it_was(self):
        books, names = [ANNAS, ("a",)], ["an", "a"]
        best_for(books, 1, names)
        self.assertEqual((books, names), ([ANNAS, ("a",)], ["an", "a"]))


class Refusals(unittest.TestCase):
    def test_what_is_no_book(self):
        for thing in NO_BOOKS:
            self.assertIs(refusal(mixed, thing, ANNAS), NoBook, repr(thing))
            self.assertIs(refusal(mixed, ANNAS, thing), NoBook, repr(thing))
            self.assertIs(refusal(mixed, thing, thing), NoBook, repr(thing))
            for function in (shared_ends, lacking, makes_all):
                self.assertIs(refusal(function, thing, ANNAS, 1), NoBook, repr(thing))
                self.assertIs(refusal(function, ANNAS, thing, 1), NoBook, repr(thing))

    def test_what_is_no_order(self):
        for thing in NO_ORDERS + (0, 4, True, False, "1", -1, 99):
            for function in (shared_ends, lacking, makes_all):
                self.assertIs(refusal(function, ANNAS, ANNAS, thing), NoOrder, repr(thing))
            self.assertIs(refusal(best_for, [ANNAS], thing, ["a"]), NoOrder, repr(thing))
            self.assertIs(refusal(best_for, [], thing, []), NoOrder, repr(thing))

    def test_what_is_no_list_of_books(self):
        for thing in NO_BOOKSHELVES:
            self.assertIs(refusal(best_for, thing, 1, ["a"]), NoBook, repr(thing))
            self.assertIs(refusal(best_for, thing, 1, []), NoBook, repr(thing))

    def test_what_is_no_list_of_names(self):
        for thing in NO_LISTS_OF_NAMES:
            self.assertIs(refusal(best_for, [ANNAS], 1, thing), NoName, repr(thing))
            self.assertIs(refusal(best_for, [], 1, thing), NoName, repr(thing))
        for thing in NO_NAMES:
            self.assertIs(refusal(best_for, [ANNAS], 1, [thing]), NoName, repr(thing))
            self.assertIs(refusal(best_for, [ANNAS], 1, ["x", thing]), NoName, repr(thing))

    def test_the_first_that_is_due(self):
        for thing in STRANGE_THINGS:
            for function in (shared_ends, lacking, makes_all):
                self.assertIs(refusal(function, thing, thing, thing), NoBook, repr(thing))
                self.assertIs(refusal(function, ANNAS, thing, thing), NoBook, repr(thing))
                self.assertIs(refusal(function, thing, ANNAS, 0), NoBook, repr(thing))
            self.assertIs(refusal(best_for, [thing], thing, thing), NoBook, repr(thing))
            self.assertIs(refusal(best_for, [thing], 1, None), NoBook, repr(thing))
            self.assertIs(refusal(best_for, [], thing, None), NoOrder, repr(thing))
            self.assertIs(refusal(best_for, [ANNAS], thing, [thing]), NoOrder, repr(thing))

    def test_what_is_right_is_not_refused(self):
        for book in MANY_BOOKS:
            for order in ORDERS:
                for function in (shared_ends, lacking, makes_all):
                    self.assertIsNone(refusal(function, book, ANNAS, order))
                self.assertIsNone(refusal(best_for, [book, ANNAS], order, ["a", "abcdefgh"]))


if __name__ == "__main__":
    unittest.main()
