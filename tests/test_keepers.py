"""Keepers: 0.2 (d) and (e), 0.3 and 7.1."""

import random
import unittest

from kinnames.drawing import drawn_fitting
from kinnames.errors import NoBook, NoName, NoNumber, NoOrder, Nothing, NoWish, TooShort
from kinnames.keepers import Keeper
from kinnames.likely import likeliest
from tests.helpers import (
    ALL_WANTED, EVEN_BOOK, MANY_BOOKS, NO_DRAWING, NO_NAMES, NO_ORDERS, NO_WISHES, NONE_TOLD, ORDERS, STRANGE_THINGS,
    WIDE_BOOK, refusal, sample_wishes, slow_drawn, slow_fits, slow_wanted,
)

ANNAS = ("anna", "ann")
NOT_WANTED = (1, 8, "x", "", (), True)


def keeper_of(book, order):
    keeper = Keeper(order)
    for name in book:
        keeper.hear(name)
    return keeper


class Heard(unittest.TestCase):
    def test_a_new_keeper(self):
        for order in ORDERS:
            keeper = Keeper(order)
            self.assertEqual(keeper.book(), ())
            self.assertEqual(keeper.given(), [])

    def test_step_by_step(self):
        keeper = Keeper(1)
        for many, name in enumerate(("anna", "ann", "anna", "z", "abcdefgh", "a", "b", "anna"), start=1):
            before = keeper.book()
            self.assertEqual(keeper.hear(name), many)
            self.assertEqual(keeper.book(), before + (name,))
            self.assertIs(type(keeper.book()), tuple)
            self.assertEqual(keeper.given(), [])

    def test_the_ninth_name(self):
        keeper = keeper_of(("a",) * 8, 1)
        for name in ("a", "b", "anna"):
            self.assertIs(refusal(keeper.hear, name), NoBook)
            self.assertEqual(keeper.book(), ("a",) * 8)
        keeper.forget("a")
        self.assertEqual(keeper.hear("b"), 8)
        self.assertEqual(keeper.book(), ("a",) * 7 + ("b",))
        self.assertIs(refusal(keeper.hear, "b"), NoBook)

    def test_forget(self):
        keeper = keeper_of(("a", "b", "c"), 1)
        self.assertIsNone(keeper.forget("b"))
        self.assertEqual(keeper.book(), ("a", "c"))
        keeper.forget("a")
        self.assertEqual(keeper.book(), ("c",))
        keeper.forget("c")
        self.assertEqual(keeper.book(), ())
        self.assertEqual(keeper.hear("c"), 1)

    def test_the_last_one_goes(self):
        keeper = keeper_of(("a", "b", "a", "c", "a", "b"), 1)
        keeper.forget("a")
        self.assertEqual(keeper.book(), ("a", "b", "a", "c", "b"))
        keeper.forget("b")
        self.assertEqual(keeper.book(), ("a", "b", "a", "c"))
        keeper.forget("a")
        self.assertEqual(keeper.book(), ("a", "b", "c"))
        keeper.forget("a")
        self.assertEqual(keeper.book(), ("b", "c"))
        self.assertIs(refusal(keeper.forget, "a"), Nothing)

    def test_nothing_to_forget(self):
        for book in ((), ("anna",), ANNAS, ("a",) * 8):
            keeper = keeper_of(book, 2)
            for name in ("an", "x", "annaa", "abcdefgh"):
                self.assertIs(refusal(keeper.forget, name), Nothing)
                self.assertEqual(keeper.book(), book)


class Given(unittest.TestCase):
    def test_give_by_hand(self):
        keeper = keeper_of(ANNAS, 1)
        self.assertEqual(keeper.give(ALL_WANTED, [0, 0]), "a")
        self.assertEqual(keeper.given(), ["a"])
        self.assertIs(refusal(keeper.give, ALL_WANTED, [0, 0]), TooShort)
        self.assertEqual(keeper.given(), ["a"])
        self.assertEqual(keeper.give(ALL_WANTED, (0, 0, 0, 1, 0, 0, 0)), "an")
        self.assertEqual(keeper.given(), ["a", "an"])
        self.assertEqual(keeper.give(NONE_TOLD, [0, 0, 0, 1, 2, 0, 0, 1, 1, 0]), "ana")
        self.assertEqual(keeper.given(), ["a", "an", "ana"])
        self.assertEqual(keeper.give(ALL_WANTED, [0, 0, 0, 1, 2, 0]), "ann")
        self.assertEqual(keeper.given(), ["a", "an", "ana", "ann"])
        self.assertEqual(keeper.book(), ANNAS)

    def test_give_likeliest_by_hand(self):
        keeper = keeper_of(ANNAS, 1)
        for name in ("a", "an", "ann", "ana"):
            self.assertEqual(keeper.give_likeliest(ALL_WANTED), name)
        self.assertEqual(keeper.given(), ["a", "an", "ann", "ana"])
        self.assertEqual(keeper.give_likeliest((4, 4, "", "", ("annn",), True)), "anan")
        self.assertEqual(keeper.give_likeliest((4, 4, "", "", ("annn",), True)), "anna")
        self.assertIsNone(keeper.give_likeliest((4, 4, "", "", ("annn",), True)))
        self.assertEqual(keeper.give_likeliest((4, 4, "", "", (), False)), "annn")
        self.assertEqual(keeper.given(), ["a", "an", "ann", "ana", "anan", "anna", "annn"])

    def test_both_bar_what_either_gave(self):
        keeper = keeper_of(ANNAS, 1)
        self.assertEqual(keeper.give(ALL_WANTED, [0, 1, 0]), "an")
        self.assertEqual(keeper.give_likeliest(ALL_WANTED), "a")
        self.assertEqual(keeper.give_likeliest(ALL_WANTED), "ann")
        self.assertIs(refusal(keeper.give, ALL_WANTED, [0, 0, 0, 1, 0, 0, 1, 2, 0]), TooShort)
        self.assertEqual(keeper.given(), ["an", "a", "ann"])

    def test_till_none_is_left(self):
        keeper = keeper_of(ANNAS, 2)
        self.assertEqual(keeper.give_likeliest(ALL_WANTED), "ann")
        self.assertEqual(keeper.give_likeliest(ALL_WANTED), "anna")
        for time in range(2):
            self.assertIsNone(keeper.give_likeliest(ALL_WANTED))
            self.assertEqual(keeper.given(), ["ann", "anna"])
            self.assertIs(refusal(keeper.give, ALL_WANTED, [0] * 99), TooShort)
            self.assertIs(refusal(keeper.give, ALL_WANTED, [1] * 99), TooShort)
            self.assertEqual(keeper.given(), ["ann", "anna"])
        self.assertIsNone(keeper_of(ANNAS, 2).give_likeliest(NONE_TOLD))
        self.assertIsNone(keeper_of(ANNAS, 1).give_likeliest(NOT_WANTED))

    def test_all_names_one_by_one(self):
        for book in MANY_BOOKS:
            for order in ORDERS:
                for wish in (ALL_WANTED, NONE_TOLD, (2, 4, "", "", tuple(sorted(set(book)))[:1], True)):
                    names = [name for part, name in slow_wanted(book, order, wish)]
                    keeper = keeper_of(book, order)
                    for name in names[:40]:
                        self.assertEqual(keeper.give_likeliest(wish), name, (book, order, wish))
                    self.assertEqual(keeper.given(), names[:40])
                    if len(names) <= 40:
                        self.assertIsNone(keeper.give_likeliest(wish))
                        self.assertEqual(keeper.given(), names)

    def test_many_given_out_before(self):
        names = [one + "x" + other for one in "abcde" for other in "uvwyz"]
        keeper = keeper_of(EVEN_BOOK, 1)
        for name in names:
            self.assertEqual(keeper.give_likeliest(ALL_WANTED), name)
        self.assertIsNone(keeper.give_likeliest(ALL_WANTED))
        self.assertEqual(keeper.given(), names)

    def test_a_wide_book(self):
        keeper = keeper_of(WIDE_BOOK, 1)
        wanted = [name for part, name in likeliest(WIDE_BOOK, 1, ALL_WANTED, 20)]
        self.assertEqual([keeper.give_likeliest(ALL_WANTED) for time in range(20)], wanted)

    def test_what_was_given_stays_given_behind_hear_and_forget(self):
        keeper = keeper_of(("a", "b"), 1)
        self.assertEqual(keeper.give_likeliest(ALL_WANTED), "a")
        keeper.forget("a")
        self.assertEqual(keeper.given(), ["a"])
        keeper.hear("a")
        keeper.hear("a")
        self.assertEqual(keeper.give_likeliest(ALL_WANTED), "b")
        self.assertIsNone(keeper.give_likeliest(ALL_WANTED))
        self.assertEqual(keeper.hear("ab"), 4)
        self.assertEqual(keeper.give_likeliest(ALL_WANTED), "ab")
        self.assertEqual(keeper.given(), ["a", "b", "ab"])

    def test_the_book_as_it_is_by_then(self):
        keeper = keeper_of(("a",), 1)
        self.assertIsNone(keeper.give_likeliest(NONE_TOLD))
        keeper.hear("bb")
        self.assertEqual(keeper.give_likeliest(NONE_TOLD), "b")
        keeper.forget("a")
        self.assertEqual(keeper.give(ALL_WANTED, [0, 1, 0]), "bb")
        self.assertEqual(keeper.given(), ["b", "bb"])

    def test_more_barred_than_a_wish_can_tell(self):
        keeper = keeper_of(("aa",), 1)
        wish = (1, 8, "", "", ("aaa",), False)
        self.assertEqual([keeper.give_likeliest(wish) for time in range(7)], [
            "a", "aaaa", "aaaaa", "aaaaaa", "aaaaaaa", "aaaaaaaa", None,
        ])
        self.assertEqual(keeper.give(ALL_WANTED, [0, 0, 0, 1, 1, 0]), "aaa")
        self.assertEqual(keeper.give(ALL_WANTED, [0, 0, 0, 1, 1, 0, 0, 1, 0]), "aa")
        self.assertIs(refusal(keeper.give, ALL_WANTED, [0, 0] * 49), TooShort)


class StepByStep(unittest.TestCase):
    """Keepers held against a slow second one, through many steps."""

    def slow_give(self, book, order, gone, wish, numbers):
        while True:
            pair = slow_drawn(book, order, numbers)
            if pair is None:
                return None
            if slow_fits(book, wish, pair[0]) and pair[0] not in gone:
                return pair[0]
            numbers = numbers[pair[1]:]

    def slow_likeliest(self, book, order, gone, wish):
        names = [name for part, name in slow_wanted(book, order, wish) if name not in gone]
        return names[0] if names else None

    def held(self, keeper, book, gone):
        self.assertEqual(keeper.book(), book)
        self.assertEqual(keeper.given(), gone)

    def one_step(self, keeper, order, book, gone, source):
        """Takes one step, asks that it went right, and tells book and given names behind it."""
        word = source.choice(("hear", "hear", "forget", "give", "give", "likeliest"))
        name = source.choice(("a", "ab", "ba", "abb", "anna", "aa", "b"))
        wish = source.choice(sample_wishes(book or ("ab",)))
        if word == "hear" and len(book) == 8:
            self.assertIs(refusal(keeper.hear, name), NoBook)
        elif word == "hear":
            self.assertEqual(keeper.hear(name), len(book) + 1)
            book = book + (name,)
        elif word == "forget" and name not in book:
            self.assertIs(refusal(keeper.forget, name), Nothing)
        elif word == "forget":
            self.assertIsNone(keeper.forget(name))
            place = len(book) - 1 - book[::-1].index(name)
            book = book[:place] + book[place + 1:]
        elif not book:
            self.assertIs(refusal(keeper.give, wish, [0]), NoBook)
            self.assertIs(refusal(keeper.give_likeliest, wish), NoBook)
        elif word == "give":
            numbers = [source.randint(0, 99) for place in range(source.choice((0, 3, 20, 99)))]
            wanted = self.slow_give(book, order, gone, wish, numbers)
            if wanted is None:
                self.assertIs(refusal(keeper.give, wish, numbers), TooShort)
            else:
                self.assertEqual(keeper.give(wish, numbers), wanted)
                gone = gone + [wanted]
        else:
            wanted = self.slow_likeliest(book, order, gone, wish)
            self.assertEqual(keeper.give_likeliest(wish), wanted)
            gone = gone + [wanted] if wanted is not None else gone
        return book, gone

    def test_like_a_slow_keeper(self):
        for seed in range(12):
            source = random.Random(seed)
            order = ORDERS[seed % 3]
            keeper, book, gone = Keeper(order), (), []
            for step in range(60):
                book, gone = self.one_step(keeper, order, book, gone, source)
                self.held(keeper, book, gone)


class OnTheirOwn(unittest.TestCase):
    def test_two_keepers_go_each_by_itself(self):
        one, other = keeper_of(ANNAS, 1), keeper_of(ANNAS, 1)
        self.assertEqual(one.give_likeliest(ALL_WANTED), "a")
        self.assertEqual(other.given(), [])
        self.assertEqual(other.give(ALL_WANTED, [0, 0]), "a")
        other.hear("b")
        one.forget("ann")
        self.assertEqual(one.book(), ("anna",))
        self.assertEqual(other.book(), ("anna", "ann", "b"))
        self.assertEqual(one.given(), ["a"])
        self.assertEqual(other.give_likeliest(ALL_WANTED), "b")
        self.assertEqual(one.given(), ["a"])
        self.assertEqual(other.given(), ["a", "b"])

    def test_new_lists_each_time(self):
        keeper = keeper_of(ANNAS, 1)
        keeper.give_likeliest(ALL_WANTED)
        told = keeper.given()
        told.append("an")
        told[0] = None
        self.assertEqual(keeper.given(), ["a"])
        self.assertEqual(keeper.give_likeliest(ALL_WANTED), "an")
        self.assertEqual(told, [None, "an"])
        self.assertEqual(keeper.given(), ["a", "an"])

    def test_a_list_told_before_stays_as_it_was(self):
        keeper = keeper_of(ANNAS, 1)
        told, book = keeper.given(), keeper.book()
        keeper.give_likeliest(ALL_WANTED)
        keeper.hear("b")
        self.assertEqual(told, [])
        self.assertEqual(book, ANNAS)

    def test_what_is_handed_in_stays_as_it_was(self):
        keeper = keeper_of(ANNAS, 1)
        numbers = [0, 1, 2, 0, 0, 0]
        keeper.give(NONE_TOLD, numbers)
        self.assertEqual(numbers, [0, 1, 2, 0, 0, 0])

    def test_given_names_are_those_of_the_functions(self):
        numbers = [random.Random(5).randint(0, 9999) for place in range(99)]
        for book in MANY_BOOKS:
            for order in ORDERS:
                for wish in sample_wishes(book)[::5]:
                    first = likeliest(book, order, wish, 1)
                    told = keeper_of(book, order).give_likeliest(wish)
                    self.assertEqual(told, first[0][1] if first else None)
                    keeper = keeper_of(book, order)
                    if refusal(drawn_fitting, book, order, wish, numbers) is None:
                        self.assertEqual(keeper.give(wish, numbers), drawn_fitting(book, order, wish, numbers)[0])
                    else:
                        self.assertIs(refusal(keeper.give, wish, numbers), TooShort)


class Refusals(unittest.TestCase):
    def nothing_changed(self, keeper, method, things, wanted):
        before = (keeper.book(), keeper.given())
        self.assertIs(refusal(method, *things), wanted, repr(things))
        self.assertEqual((keeper.book(), keeper.given()), before)

    def test_what_is_no_order(self):
        for thing in NO_ORDERS + (0, 4, True, False, "1", -1, 99):
            self.assertIs(refusal(Keeper, thing), NoOrder, repr(thing))

    def test_what_is_no_name(self):
        full, empty = keeper_of(("a",) * 8, 1), Keeper(1)
        for thing in NO_NAMES:
            for keeper in (full, empty):
                self.nothing_changed(keeper, keeper.hear, [thing], NoName)
                self.nothing_changed(keeper, keeper.forget, [thing], NoName)

    def test_an_empty_keeper(self):
        keeper = Keeper(1)
        for thing in NO_WISHES + (ALL_WANTED,):
            self.nothing_changed(keeper, keeper.give, [thing, [0, 0]], NoBook)
            self.nothing_changed(keeper, keeper.give, [thing, None], NoBook)
            self.nothing_changed(keeper, keeper.give_likeliest, [thing], NoBook)
        for thing in NO_DRAWING:
            self.nothing_changed(keeper, keeper.give, [ALL_WANTED, thing], NoBook)
        keeper.hear("a")
        keeper.forget("a")
        self.nothing_changed(keeper, keeper.give, [ALL_WANTED, [0, 0]], NoBook)
        self.nothing_changed(keeper, keeper.give_likeliest, [ALL_WANTED], NoBook)

    def test_what_is_no_wish(self):
        keeper = keeper_of(ANNAS, 1)
        keeper.give_likeliest(ALL_WANTED)
        for thing in NO_WISHES:
            self.nothing_changed(keeper, keeper.give, [thing, [0, 1, 0]], NoWish)
            self.nothing_changed(keeper, keeper.give, [thing, None], NoWish)
            self.nothing_changed(keeper, keeper.give, [thing, []], NoWish)
            self.nothing_changed(keeper, keeper.give_likeliest, [thing], NoWish)

    def test_what_is_not_to_be_drawn_by(self):
        keeper = keeper_of(ANNAS, 1)
        keeper.give_likeliest(ALL_WANTED)
        for thing in NO_DRAWING:
            for wish in (ALL_WANTED, NONE_TOLD, NOT_WANTED):
                self.nothing_changed(keeper, keeper.give, [wish, thing], NoNumber)

    def test_too_short(self):
        keeper = keeper_of(ANNAS, 1)
        for numbers in ([], (), [0], [0, 1], [0, 1, 2, 1]):
            self.nothing_changed(keeper, keeper.give, [ALL_WANTED, numbers], TooShort)
        self.nothing_changed(keeper, keeper.give, [NOT_WANTED, [0] * 99], TooShort)
        self.nothing_changed(keeper, keeper.give, [NONE_TOLD, [0, 1, 2, 0]], TooShort)

    def test_given_once_only(self):
        keeper = keeper_of(("a", "b"), 3)
        self.assertEqual(keeper.give(ALL_WANTED, [1, 0]), "b")
        self.nothing_changed(keeper, keeper.give, [ALL_WANTED, [1, 0] * 40], TooShort)
        self.assertEqual(keeper.give(ALL_WANTED, [1, 0, 0, 0]), "a")
        self.nothing_changed(keeper, keeper.give, [ALL_WANTED, [1, 0, 0, 0] * 20], TooShort)

    def test_things_in_every_place(self):
        keeper = keeper_of(ANNAS, 1)
        for thing in STRANGE_THINGS:
            self.nothing_changed(keeper, keeper.give, [thing, thing], NoWish)


if __name__ == "__main__":
    unittest.main()
