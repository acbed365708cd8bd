"""Names drawn by numbers: 0.2 (a) and (e), 0.3, 5.1 and 5.2."""

import itertools
import random
import unittest

from kinnames.books import table
from kinnames.drawing import drawn, drawn_fitting, numbers_for
from kinnames.errors import NoBook, NoName, NoNumber, NoOrder, NotMade, NoWish, TooShort
from kinnames.shares import makes
from kinnames.wishes import fits
from tests.helpers import (
    ALL_WANTED, EVEN_BOOK, MANY_BOOKS, NO_BOOKS, NO_DRAWING, NO_NAMES, NO_ORDERS, NO_WISHES, NONE_TOLD, ORDERS,
    SMALL_BOOKS, STRANGE_THINGS, WIDE_BOOK, refusal, sample_wishes, slow_drawn, slow_fits, slow_made,
)

# By order 1: behind the empty text a a, behind a: end, n, n, behind n: end, a, n, n.
ANNAS = ("anna", "ann")
NOT_WANTED = (1, 8, "x", "", (), True)


def some_numbers(many, seed, most=9999):
    source = random.Random(seed)
    return [source.randint(0, most) for place in range(many)]


class Drawn(unittest.TestCase):
    def test_by_hand_by_order_1(self):
        self.assertEqual(drawn(ANNAS, 1, [0, 0]), ("a", 2))
        self.assertEqual(drawn(ANNAS, 1, [1, 0]), ("a", 2))
        self.assertEqual(drawn(ANNAS, 1, [0, 1, 0]), ("an", 3))
        self.assertEqual(drawn(ANNAS, 1, [0, 2, 0]), ("an", 3))
        self.assertEqual(drawn(ANNAS, 1, [0, 1, 1, 0]), ("ana", 4))
        self.assertEqual(drawn(ANNAS, 1, [0, 1, 2, 0]), ("ann", 4))
        self.assertEqual(drawn(ANNAS, 1, [0, 1, 3, 0]), ("ann", 4))
        self.assertEqual(drawn(ANNAS, 1, [0, 1, 2, 1, 0]), ("anna", 5))

    def test_by_hand_by_order_2(self):
        self.assertEqual(drawn(ANNAS, 2, [0, 0, 0, 0]), ("ann", 4))
        self.assertEqual(drawn(ANNAS, 2, [0, 0, 0, 1, 0]), ("anna", 5))
        self.assertEqual(drawn(("ab", "abb", "cb"), 2, [0, 0, 0]), ("ab", 3))
        self.assertEqual(drawn(("ab", "abb", "cb"), 2, [1, 1, 1, 0]), ("abb", 4))
        self.assertEqual(drawn(("ab", "abb", "cb"), 2, [2, 0, 0]), ("cb", 3))

    def test_by_hand_by_order_3(self):
        self.assertEqual(drawn(ANNAS, 3, [0, 0, 0, 0]), ("ann", 4))
        self.assertEqual(drawn(ANNAS, 3, [0, 0, 0, 1, 0]), ("anna", 5))
        book = ("abca", "abcb", "zbcc")
        self.assertEqual(drawn(book, 2, [0, 0, 0, 2, 0]), ("abcc", 5))
        self.assertEqual(drawn(book, 3, [0, 0, 0, 2, 0]), ("abca", 5))
        self.assertEqual(drawn(book, 3, [0, 0, 0, 1, 0]), ("abcb", 5))

    def test_numbers_above_how_often_anything_is_there(self):
        self.assertEqual(drawn(ANNAS, 1, [2, 3]), ("a", 2))
        self.assertEqual(drawn(ANNAS, 1, [9999, 9999]), ("a", 2))
        self.assertEqual(drawn(ANNAS, 1, [9999, 4, 4]), ("an", 3))
        self.assertEqual(drawn(ANNAS, 1, [8, 5, 5, 9, 9999]), ("ana", 4))
        self.assertEqual(drawn(("a", "b", "c"), 1, [9998, 0]), ("c", 2))
        self.assertEqual(drawn(("a", "b", "c"), 1, [9999, 0]), ("a", 2))

    def test_the_end_comes_before_all_letters_in_a_row(self):
        self.assertEqual(drawn(("ab", "a"), 1, [0, 0]), ("a", 2))
        self.assertEqual(drawn(("ab", "a"), 1, [0, 1, 0]), ("ab", 3))

    def test_numbers_behind_the_end_are_not_taken(self):
        self.assertEqual(drawn(ANNAS, 1, [0, 0, 7, 9999]), ("a", 2))
        self.assertEqual(drawn(ANNAS, 2, [0, 0, 0, 0] + [5] * 95), ("ann", 4))

    def test_a_list_and_a_tuple(self):
        for numbers in ([0, 1, 2, 0], [0, 1, 0, 3], some_numbers(99, 1), [9999] * 99):
            self.assertEqual(drawn(ANNAS, 1, tuple(numbers)), drawn(ANNAS, 1, numbers))

    def test_texts_longer_than_eight_letters(self):
        self.assertEqual(drawn(ANNAS, 1, [0, 1] + [2] * 9 + [0]), ("a" + "n" * 10, 12))
        self.assertEqual(drawn(("aa",), 1, [0] + [1] * 97 + [0]), ("a" * 98, 99))
        self.assertEqual(drawn(("aa",), 1, [0] + [1] * 7 + [0]), ("a" * 8, 9))
        self.assertEqual(drawn(("aa",), 1, [0] + [1] * 8 + [0]), ("a" * 9, 10))

    def test_too_short(self):
        for book in MANY_BOOKS:
            for order in ORDERS:
                self.assertIs(refusal(drawn, book, order, []), TooShort)
                self.assertIs(refusal(drawn, book, order, ()), TooShort)
                self.assertIs(refusal(drawn, book, order, [0]), TooShort)
        self.assertIs(refusal(drawn, ANNAS, 1, [0, 1]), TooShort)
        self.assertIs(refusal(drawn, ANNAS, 1, [0, 1, 2, 1]), TooShort)
        self.assertIs(refusal(drawn, ("aa",), 1, [1] * 99), TooShort)
        self.assertIs(refusal(drawn, ("abcdefgh",), 1, [0] * 8), TooShort)
        self.assertEqual(drawn(("abcdefgh",), 1, [0] * 9), ("abcdefgh", 9))

    def test_like_taking_away_and_counting_on(self):
        for book in MANY_BOOKS + SMALL_BOOKS[::7] + (WIDE_BOOK,):
            for order in ORDERS:
                for many, most in itertools.product((0, 1, 2, 3, 5, 9, 40, 99), (1, 9, 100, 9999)):
                    numbers = some_numbers(many, many + most, most)
                    wanted = slow_drawn(book, order, numbers)
                    if wanted is None:
                        self.assertIs(refusal(drawn, book, order, numbers), TooShort)
                    else:
                        told = drawn(book, order, numbers)
                        self.assertEqual(told, wanted, (book, order, numbers))
                        self.assertIs(type(told), tuple)

    def test_each_letter_is_picked_as_often_as_it_is_there(self):
        for book in MANY_BOOKS:
            for order in ORDERS:
                for end, row in table(book, order):
                    way = self.numbers_to(book, order, end)
                    picked = [self.picked(book, order, way, number) for number in range(sum(dict(row).values()))]
                    self.assertEqual(picked, [letter for letter, often in row for time in range(often)], (book, end))

    def numbers_to(self, book, order, end):
        """Numbers by which a text that has this end is drawn, but not ended."""
        for name in book:
            for place in range(len(name) + 1):
                if name[max(0, place - order):place] == end:
                    return numbers_for(book, order, name)[:place]
        self.fail(end)

    def picked(self, book, order, way, number):
        """The letter that the number picks behind the way; what is drawn goes on from there somehow."""
        for more in ([], [0], [1], [0] * 20, [1, 0], some_numbers(80, 3), some_numbers(80, 4), some_numbers(80, 5)):
            if refusal(drawn, book, order, way + [number] + more) is None:
                return drawn(book, order, way + [number] + more)[0][len(way):len(way) + 1]
        self.fail((book, order, way, number))

    def test_what_is_drawn_and_short_enough_is_made(self):
        for book in MANY_BOOKS:
            for order in ORDERS:
                for seed in range(10):
                    numbers = some_numbers(99, seed)
                    if refusal(drawn, book, order, numbers) is None and len(drawn(book, order, numbers)[0]) <= 8:
                        self.assertTrue(makes(book, order, drawn(book, order, numbers)[0]))

    def test_asked_again_it_tells_the_same(self):
        numbers = some_numbers(99, 6)
        self.assertEqual(drawn(ANNAS, 1, numbers), drawn(ANNAS, 1, numbers))


class NumbersFor(unittest.TestCase):
    def test_by_hand(self):
        self.assertEqual(numbers_for(ANNAS, 1, "a"), [0, 0])
        self.assertEqual(numbers_for(ANNAS, 1, "an"), [0, 1, 0])
        self.assertEqual(numbers_for(ANNAS, 1, "ana"), [0, 1, 1, 0])
        self.assertEqual(numbers_for(ANNAS, 1, "anna"), [0, 1, 2, 1, 0])
        self.assertEqual(numbers_for(ANNAS, 2, "ann"), [0, 0, 0, 0])
        self.assertEqual(numbers_for(ANNAS, 3, "anna"), [0, 0, 0, 1, 0])
        self.assertEqual(numbers_for(("b", "b", "a", "c"), 1, "c"), [3, 0])
        self.assertEqual(numbers_for(("a",) * 7 + ("b",), 1, "b"), [7, 0])

    def test_they_draw_the_name_and_none_can_be_less(self):
        for book in MANY_BOOKS + SMALL_BOOKS[::11]:
            for order in ORDERS:
                names = sorted(slow_made(book, order))
                for name in sorted(set(names[:15] + names[-15:] + names[::97] + list(book))):
                    numbers = numbers_for(book, order, name)
                    self.assertIs(type(numbers), list)
                    self.assertEqual(drawn(book, order, numbers), (name, len(numbers)), (book, order, name))
                    for place, number in enumerate(numbers):
                        for fewer in range(number):
                            lower = numbers[:place] + [fewer] + numbers[place + 1:]
                            told = slow_drawn(book, order, lower)
                            self.assertNotEqual(told, (name, len(numbers)), (book, order, name, lower))

    def test_names_that_are_not_made(self):
        for order in ORDERS:
            for name in ("x", "n", "nna", "xanna", "annax", "abcdefgh"):
                self.assertIs(refusal(numbers_for, ANNAS, order, name), NotMade, name)
        self.assertIs(refusal(numbers_for, ANNAS, 2, "an"), NotMade)
        self.assertIs(refusal(numbers_for, ANNAS, 2, "ana"), NotMade)
        self.assertIs(refusal(numbers_for, ("aab",), 1, "a"), NotMade)

    def test_made_or_not_made(self):
        for book in MANY_BOOKS + SMALL_BOOKS[::17]:
            for order in ORDERS:
                for name in book + ("a", "b", "ab", "ba", "aba", "abba", "an", "ana", "mari", "zz"):
                    wanted = None if makes(book, order, name) else NotMade
                    self.assertIs(refusal(numbers_for, book, order, name), wanted, (book, order, name))

    def test_a_new_list_each_time(self):
        told = numbers_for(ANNAS, 1, "anna")
        told.append(7)
        told[0] = None
        self.assertEqual(numbers_for(ANNAS, 1, "anna"), [0, 1, 2, 1, 0])


class DrawnFitting(unittest.TestCase):
    def test_the_first_text(self):
        self.assertEqual(drawn_fitting(ANNAS, 1, ALL_WANTED, [0, 0]), ("a", 2))
        self.assertEqual(drawn_fitting(ANNAS, 1, ALL_WANTED, (0, 1, 1, 0, 0, 0)), ("ana", 4))

    def test_a_later_text(self):
        longer = (2, 8, "", "", (), True)
        self.assertEqual(drawn_fitting(ANNAS, 1, longer, [0, 0, 0, 1, 0]), ("an", 5))
        self.assertEqual(drawn_fitting(ANNAS, 1, longer, [0, 0, 1, 3, 0, 1, 0]), ("an", 7))
        self.assertEqual(drawn_fitting(ANNAS, 1, (1, 8, "", "", ("a",), True), [0, 0, 0, 1, 0]), ("an", 5))
        self.assertEqual(drawn_fitting(ANNAS, 1, (1, 8, "", "na", (), True), [0, 0, 0, 1, 0, 0, 1, 1, 0]), ("ana", 9))
        self.assertEqual(drawn_fitting(EVEN_BOOK, 1, (1, 8, "b", "", (), True), [0, 0, 0, 0, 1, 0, 0, 0]), ("bxu", 8))

    def test_a_text_too_long_to_be_a_name(self):
        self.assertEqual(drawn_fitting(("aa",), 1, ALL_WANTED, [0] + [1] * 8 + [0] + [0, 0]), ("a", 12))
        self.assertEqual(drawn_fitting(("aa",), 1, ALL_WANTED, [0] + [1] * 7 + [0] + [0, 0]), ("a" * 8, 9))
        self.assertEqual(drawn_fitting(("aa",), 1, NONE_TOLD, [0] + [1] * 20 + [0] + [0, 1, 1, 0]), ("aaa", 26))

    def test_told_ones(self):
        self.assertEqual(drawn_fitting(ANNAS, 1, ALL_WANTED, [0, 1, 2, 0, 0, 0]), ("ann", 4))
        self.assertEqual(drawn_fitting(ANNAS, 1, NONE_TOLD, [0, 1, 2, 0, 0, 0]), ("a", 6))
        self.assertEqual(drawn_fitting(ANNAS, 1, NONE_TOLD, [0, 1, 2, 1, 0, 0, 1, 2, 0, 0, 1, 0]), ("an", 12))

    def test_none_is_as_wanted(self):
        self.assertIs(refusal(drawn_fitting, ANNAS, 1, NOT_WANTED, some_numbers(99, 1)), TooShort)
        self.assertIs(refusal(drawn_fitting, ANNAS, 1, ALL_WANTED, []), TooShort)
        self.assertIs(refusal(drawn_fitting, ANNAS, 1, ALL_WANTED, ()), TooShort)
        self.assertIs(refusal(drawn_fitting, ANNAS, 1, ALL_WANTED, [0, 1]), TooShort)
        self.assertIs(refusal(drawn_fitting, ANNAS, 2, NONE_TOLD, [0] * 99), TooShort)
        self.assertIs(refusal(drawn_fitting, ANNAS, 1, (2, 8, "", "", (), True), [0, 0, 0, 1]), TooShort)
        self.assertIs(refusal(drawn_fitting, ("aa",), 1, ALL_WANTED, [0] + [1] * 8 + [0]), TooShort)
        self.assertIs(refusal(drawn_fitting, ("aa",), 1, ALL_WANTED, [0] + [1] * 97 + [0]), TooShort)

    def test_numbers_behind_those_taken_change_nothing(self):
        for wish in (ALL_WANTED, NONE_TOLD, (3, 8, "", "", (), True), (1, 8, "", "n", (), True)):
            numbers = some_numbers(99, 8, 20)
            told = drawn_fitting(ANNAS, 1, wish, numbers)
            for more in ([], [0], [1] * 5, numbers[told[1]:], [9999]):
                self.assertEqual(drawn_fitting(ANNAS, 1, wish, numbers[:told[1]] + more), told)
            self.assertIs(refusal(drawn_fitting, ANNAS, 1, wish, numbers[:told[1] - 1]), TooShort)

    def slow_fitting(self, book, order, wish, numbers):
        taken = 0
        while True:
            pair = slow_drawn(book, order, numbers[taken:])
            if pair is None:
                return None
            taken += pair[1]
            if slow_fits(book, wish, pair[0]):
                return (pair[0], taken)

    def test_like_one_text_behind_the_other(self):
        for book in MANY_BOOKS:
            for order in ORDERS:
                for place, wish in enumerate(sample_wishes(book)):
                    numbers = some_numbers((99, 50, 12)[place % 3], place, (9999, 30)[place % 2])
                    wanted = self.slow_fitting(book, order, wish, numbers)
                    if wanted is None:
                        self.assertIs(refusal(drawn_fitting, book, order, wish, numbers), TooShort)
                    else:
                        told = drawn_fitting(book, order, wish, numbers)
                        self.assertEqual(told, wanted, (book, order, wish, numbers))
                        self.assertIs(type(told), tuple)
                        self.assertTrue(makes(book, order, told[0]) and fits(book, wish, told[0]))


class Refusals(unittest.TestCase):
    def test_what_is_no_book(self):
        for thing in NO_BOOKS:
            self.assertIs(refusal(drawn, thing, 1, [0, 0]), NoBook, repr(thing))
            self.assertIs(refusal(drawn_fitting, thing, 1, ALL_WANTED, [0, 0]), NoBook, repr(thing))
            self.assertIs(refusal(numbers_for, thing, 1, "a"), NoBook, repr(thing))

    def test_what_is_no_order(self):
        for thing in NO_ORDERS + (0, 4, True, False, "1", -1, 99, [0, 0]):
            self.assertIs(refusal(drawn, ANNAS, thing, [0, 0]), NoOrder, repr(thing))
            self.assertIs(refusal(drawn_fitting, ANNAS, thing, ALL_WANTED, [0, 0]), NoOrder, repr(thing))
            self.assertIs(refusal(numbers_for, ANNAS, thing, "a"), NoOrder, repr(thing))

    def test_what_is_no_wish(self):
        for thing in NO_WISHES:
            self.assertIs(refusal(drawn_fitting, ANNAS, 1, thing, [0, 0]), NoWish, repr(thing))
            self.assertIs(refusal(drawn_fitting, ANNAS, 1, thing, []), NoWish, repr(thing))

    def test_what_is_no_name(self):
        for thing in NO_NAMES:
            self.assertIs(refusal(numbers_for, ANNAS, 1, thing), NoName, repr(thing))

    def test_what_is_not_to_be_drawn_by(self):
        for thing in NO_DRAWING:
            for order in ORDERS:
                self.assertIs(refusal(drawn, ANNAS, order, thing), NoNumber, repr(thing))
            for wish in (ALL_WANTED, NONE_TOLD, NOT_WANTED):
                self.assertIs(refusal(drawn_fitting, ANNAS, 1, wish, thing), NoNumber, repr(thing))

    def test_wrong_numbers_behind_those_taken(self):
        for thing in (True, False, None, "0", "", -1, 10000, [], (), [0], (0,), 10 ** 30):
            for numbers in ([0, 0, thing], (0, 0, thing), [0, 0, 0, thing, 0]):
                self.assertIs(refusal(drawn, ANNAS, 1, numbers), NoNumber, repr(numbers))
                self.assertIs(refusal(drawn_fitting, ANNAS, 1, ALL_WANTED, numbers), NoNumber, repr(numbers))

    def test_numbers_at_their_bounds(self):
        for numbers in ([0] * 99, [9999] * 99, (0,) * 99, (9999,) * 99, [0, 9999], (9999, 0)):
            for book in (("a",), ("a", "b"), ("b",) * 8):
                self.assertIsNone(refusal(drawn, book, 3, numbers), numbers)
                self.assertIsNone(refusal(drawn_fitting, book, 3, ALL_WANTED, numbers), numbers)
        for numbers in ([0] * 100, (0,) * 100, [-1, 0], (0, 10000), [10000], [0, -1]):
            self.assertIs(refusal(drawn, ("a",), 1, numbers), NoNumber, numbers)

    def test_the_first_that_is_due(self):
        for thing in STRANGE_THINGS:
            for function in (drawn, numbers_for):
                self.assertIs(refusal(function, thing, thing, thing), NoBook, repr(thing))
                self.assertIs(refusal(function, thing, 1, None), NoBook, repr(thing))
                self.assertIs(refusal(function, ANNAS, thing, None), NoOrder, repr(thing))
                self.assertIs(refusal(function, ANNAS, thing, "x"), NoOrder, repr(thing))
            self.assertIs(refusal(drawn, thing, 1, []), NoBook, repr(thing))
            self.assertIs(refusal(drawn, ANNAS, thing, []), NoOrder, repr(thing))
            self.assertIs(refusal(numbers_for, thing, 1, "x"), NoBook, repr(thing))
            self.assertIs(refusal(drawn_fitting, thing, thing, thing, thing), NoBook, repr(thing))
            self.assertIs(refusal(drawn_fitting, thing, 1, ALL_WANTED, []), NoBook, repr(thing))
            self.assertIs(refusal(drawn_fitting, ANNAS, thing, thing, None), NoOrder, repr(thing))
            self.assertIs(refusal(drawn_fitting, ANNAS, thing, ALL_WANTED, []), NoOrder, repr(thing))
            self.assertIs(refusal(drawn_fitting, ANNAS, 1, thing, None), NoWish, repr(thing))
            self.assertIs(refusal(drawn_fitting, ANNAS, 1, thing, [10000]), NoWish, repr(thing))

    def test_too_short_and_not_made_behind_all(self):
        self.assertIs(refusal(drawn, ANNAS, 1, [True]), NoNumber)
        self.assertIs(refusal(drawn, ANNAS, 1, [0, -1]), NoNumber)
        self.assertIs(refusal(drawn_fitting, ANNAS, 1, NOT_WANTED, [0, 0, 10000]), NoNumber)
        self.assertIs(refusal(numbers_for, ANNAS, 2, "X"), NoName)


if __name__ == "__main__":
    unittest.main()
