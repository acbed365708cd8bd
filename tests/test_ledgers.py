"""Ledgers: 0.2 (l), 0.3, 12.1, 12.2 and 12.3."""

import random
import unittest

from kinnames.errors import NoBook, NoName, NoOrder, Nothing
from kinnames.ledgers import Ledger
from kinnames.shares import makes, share
from tests.helpers import (
    MANY_BOOKS, NO_BOOKS, NO_NAMES, NO_ORDERS, ORDERS, STRANGE_THINGS, SlowSteps, refusal, slow_share,
)

ANNAS = ("anna", "ann")
SOME_NAMES = ("a", "b", "an", "ann", "anna", "ab", "ba", "x", "abcdefgh")
TITLES = ("a", "b", "ab", "one", "two", "abcdefgh")


def ledger_of(books, order):
    ledger = Ledger(order)
    for title, book in books.items():
        ledger.keep(title, book)
    return ledger


def all_of(ledger):
    titles = ledger.titles()
    told = [(ledger.tellers(name), ledger.makers_of(name), ledger.best_of(name)) for name in SOME_NAMES]
    return (titles, [ledger.book(title) for title in titles], told, ledger.many())


def slow_all(books, order, many):
    """What all_of tells, found by a look at each book."""
    told = []
    for name in SOME_NAMES:
        shares = {title: slow_share(books[title], order, name) for title in sorted(books)}
        making = [title for title in shares if shares[title] > 0]
        best = min(making, key=lambda title: (-shares[title], title), default=None)
        told.append(([title for title in sorted(books) if name in books[title]], making, best))
    return (sorted(books), [books[title] for title in sorted(books)], told, many)


class Kept(unittest.TestCase):
    def held(self, ledger, order, books, many):
        self.assertEqual(all_of(ledger), slow_all(books, order, many))

    def test_a_new_ledger(self):
        for order in ORDERS:
            ledger = Ledger(order)
            self.assertEqual(ledger.titles(), [])
            self.assertEqual(ledger.tellers("a"), [])
            self.assertEqual(ledger.makers_of("a"), [])
            self.assertIsNone(ledger.best_of("a"))
            self.assertEqual(ledger.many(), (0, 0))

    def test_step_by_step(self):
        ledger = Ledger(1)
        self.assertIs(ledger.keep("b", ANNAS), False)
        self.held(ledger, 1, {"b": ANNAS}, (1, 0))
        self.assertIs(ledger.keep("a", ("ab",)), False)
        self.held(ledger, 1, {"a": ("ab",), "b": ANNAS}, (2, 0))
        self.assertIs(ledger.keep("b", ("ba", "b")), True)
        self.held(ledger, 1, {"a": ("ab",), "b": ("ba", "b")}, (3, 0))
        self.assertEqual(ledger.hear("a", "an"), 2)
        self.held(ledger, 1, {"a": ("ab", "an"), "b": ("ba", "b")}, (4, 0))
        self.assertEqual(ledger.hear("a", "an"), 3)
        self.held(ledger, 1, {"a": ("ab", "an", "an"), "b": ("ba", "b")}, (5, 0))
        self.assertEqual(ledger.drop("b"), ("ba", "b"))
        self.held(ledger, 1, {"a": ("ab", "an", "an")}, (6, 0))
        self.assertIs(ledger.keep("b", ("x",)), False)
        self.held(ledger, 1, {"a": ("ab", "an", "an"), "b": ("x",)}, (7, 0))
        self.assertEqual(ledger.drop("a"), ("ab", "an", "an"))
        self.assertEqual(ledger.drop("b"), ("x",))
        self.held(ledger, 1, {}, (9, 0))

    def test_the_same_book_again(self):
        ledger = ledger_of({"a": ANNAS}, 1)
        self.assertIs(ledger.keep("a", ANNAS), True)
        self.held(ledger, 1, {"a": ANNAS}, (2, 0))
        self.assertIs(ledger.keep("b", ANNAS), False)
        self.held(ledger, 1, {"a": ANNAS, "b": ANNAS}, (3, 0))

    def test_the_ninth_name(self):
        ledger = ledger_of({"a": ("a",) * 7, "b": ("b",) * 8}, 1)
        self.assertEqual(ledger.hear("a", "b"), 8)
        for title in ("a", "b"):
            before = all_of(ledger)
            self.assertIs(refusal(ledger.hear, title, "a"), NoBook)
            self.assertEqual(all_of(ledger), before)
        self.held(ledger, 1, {"a": ("a",) * 7 + ("b",), "b": ("b",) * 8}, (3, 0))

    def test_titles_by_the_alphabet(self):
        ledger = ledger_of({"c": ANNAS, "b": ANNAS, "abc": ANNAS, "ab": ANNAS}, 2)
        self.assertEqual(ledger.titles(), ["ab", "abc", "b", "c"])
        self.assertEqual(ledger.tellers("ann"), ["ab", "abc", "b", "c"])
        self.assertEqual(ledger.makers_of("anna"), ["ab", "abc", "b", "c"])
        self.assertEqual(ledger.best_of("anna"), "ab")

    def test_a_title_may_be_a_name_of_a_book(self):
        ledger = ledger_of({"anna": ("ann",), "ann": ("anna",)}, 3)
        self.assertEqual(ledger.tellers("anna"), ["ann"])
        self.assertEqual(ledger.book("anna"), ("ann",))

    def test_tellers_and_makers(self):
        ledger = ledger_of({"one": ANNAS, "two": ("an",), "six": ("anan", "a"), "ten": ("x",)}, 1)
        self.assertEqual(ledger.tellers("an"), ["two"])
        self.assertEqual(ledger.makers_of("an"), ["one", "six", "two"])
        self.assertEqual(ledger.tellers("ana"), [])
        self.assertEqual(ledger.makers_of("ana"), ["one", "six"])
        self.assertEqual(ledger.tellers("z"), [])
        self.assertEqual(ledger.makers_of("z"), [])

    def test_the_best(self):
        ledger = ledger_of({"b": ("a", "b"), "a": ("a", "b", "c"), "d": ("a", "d"), "c": ("c",)}, 1)
        self.assertEqual(ledger.best_of("a"), "b")
        self.assertEqual(ledger.best_of("c"), "c")
        self.assertEqual(ledger.best_of("d"), "d")
        self.assertIsNone(ledger.best_of("x"))
        ledger.keep("e", ("a",))
        self.assertEqual(ledger.best_of("a"), "e")
        ledger.drop("b")
        ledger.drop("e")
        self.assertEqual(ledger.best_of("a"), "d")

    def test_like_shares_the_first_in_the_alphabet(self):
        ledger = ledger_of({"z": ("a",), "b": ("a", "a"), "c": ("a",), "a": ("b", "a")}, 2)
        self.assertEqual(ledger.best_of("a"), "b")
        ledger.drop("b")
        self.assertEqual(ledger.best_of("a"), "c")

    def test_by_its_order(self):
        for order in ORDERS:
            ledger = ledger_of({"a": ANNAS, "b": ("xaby", "zabw"), "c": ("ana", "an")}, order)
            self.assertEqual(ledger.makers_of("xabw"), ["b"] if order < 3 else [])
            self.assertEqual(ledger.makers_of("an"), ["a", "c"] if order == 1 else ["c"])
            self.assertEqual(ledger.best_of("xabw"), "b" if order < 3 else None)

    def test_it_tells_of_its_books_what_they_tell(self):
        books = {"t" + "abcdefghijklmnopqrstuvwxyz"[place]: book for place, book in enumerate(MANY_BOOKS)}
        for order in ORDERS:
            ledger = ledger_of(books, order)
            self.assertEqual(all_of(ledger), slow_all(books, order, (len(books), 0)))
            for name in ("maria", "a", "axv", "kit", "anna"):
                self.assertEqual(ledger.makers_of(name), [
                    title for title in ledger.titles() if makes(ledger.book(title), order, name)
                ])
                best = ledger.best_of(name)
                if best is not None:
                    top = share(ledger.book(best), order, name)
                    for title in ledger.makers_of(name):
                        other = share(ledger.book(title), order, name)
                        self.assertGreaterEqual(top[0] * other[1], other[0] * top[1])


class BackAndForth(unittest.TestCase):
    def test_each_step_and_its_word(self):
        ledger = Ledger(1)
        steps = (
            lambda: ledger.keep("a", ANNAS), lambda: ledger.keep("b", ("ab",)), lambda: ledger.hear("a", "x"),
            lambda: ledger.keep("a", ("a", "a")), lambda: ledger.drop("b"), lambda: ledger.hear("a", "a"),
            lambda: ledger.keep("a", ("a", "a", "a")), lambda: ledger.drop("a"), lambda: ledger.keep("b", ("b",)),
        )
        words = ["keep", "keep", "hear", "keep", "drop", "hear", "keep", "drop", "keep"]
        told, seen = [], [all_of(ledger)[:3]]
        for step in steps:
            told.append(step())
            seen.append(all_of(ledger)[:3])
        self.assertEqual(told, [False, False, 3, True, ("ab",), 3, True, ("a", "a", "a"), False])
        for time in range(2):
            for place in range(len(words) - 1, -1, -1):
                self.assertEqual(ledger.many(), (place + 1, len(words) - 1 - place))
                self.assertEqual(ledger.back(), words[place])
                self.assertEqual(all_of(ledger)[:3], seen[place])
            self.assertIs(refusal(ledger.back), Nothing)
            self.assertEqual(ledger.titles(), [])
            self.assertEqual(ledger.many(), (0, len(words)))
            for place in range(len(words)):
                self.assertEqual(ledger.forth(), words[place])
                self.assertEqual(all_of(ledger)[:3], seen[place + 1])
            self.assertIs(refusal(ledger.forth), Nothing)
            self.assertEqual(ledger.many(), (len(words), 0))

    def test_the_word_is_not_what_the_step_told(self):
        ledger = Ledger(1)
        self.assertIs(ledger.keep("u", ("bb", "ba")), False)
        self.assertIs(ledger.keep("v", ("aa",)), False)
        self.assertEqual(ledger.drop("u"), ("bb", "ba"))
        self.assertEqual(ledger.hear("v", "ab"), 2)
        for one in (ledger.twin(), ledger):
            self.assertEqual([one.back() for time in range(4)], ["hear", "drop", "keep", "keep"])
            self.assertEqual((one.titles(), one.many()), ([], (0, 4)))
            self.assertEqual([one.forth() for time in range(4)], ["keep", "keep", "drop", "hear"])
            self.assertEqual((one.titles(), one.book("v"), one.many()), (["v"], ("aa", "ab"), (4, 0)))

    def test_a_step_that_changed_nothing(self):
        ledger = ledger_of({"a": ANNAS}, 1)
        ledger.keep("a", ANNAS)
        self.assertEqual(ledger.many(), (2, 0))
        self.assertEqual(ledger.back(), "keep")
        self.assertEqual((ledger.titles(), ledger.many()), (["a"], (1, 1)))

    def test_nothing_at_first(self):
        ledger = Ledger(1)
        self.assertIs(refusal(ledger.back), Nothing)
        self.assertIs(refusal(ledger.forth), Nothing)
        self.assertEqual(ledger.many(), (0, 0))

    def test_forth_behind_another_step(self):
        for step in (lambda one: one.keep("c", ("c",)), lambda one: one.keep("a", ANNAS), lambda one: one.drop("a"),
                     lambda one: one.hear("a", "b")):
            ledger = ledger_of({"a": ANNAS, "b": ANNAS}, 1)
            ledger.back()
            self.assertEqual(ledger.many(), (1, 1))
            step(ledger)
            self.assertEqual(ledger.many(), (2, 0))
            before = all_of(ledger)
            self.assertIs(refusal(ledger.forth), Nothing)
            self.assertEqual(all_of(ledger), before)

    def test_a_refused_step_is_none(self):
        ledger = ledger_of({"a": ("a",) * 8, "b": ANNAS}, 1)
        ledger.back()
        before = all_of(ledger)
        for method, things, wanted in (
            (ledger.hear, ["a", "b"], NoBook), (ledger.drop, ["b"], Nothing), (ledger.hear, ["b", "b"], Nothing),
            (ledger.keep, ["b", ()], NoBook), (ledger.keep, ["", ANNAS], NoName), (ledger.book, ["b"], Nothing),
        ):
            self.assertIs(refusal(method, *things), wanted)
            self.assertEqual(all_of(ledger), before)
        self.assertEqual(ledger.forth(), "keep")
        self.assertEqual(ledger.titles(), ["a", "b"])


class Twins(unittest.TestCase):
    def test_as_this_one(self):
        ledger = ledger_of({"a": ANNAS, "b": ("ab",)}, 2)
        ledger.hear("b", "b")
        ledger.back()
        twin = ledger.twin()
        self.assertIsInstance(twin, Ledger)
        self.assertEqual(all_of(twin), all_of(ledger))
        self.assertEqual(twin.many(), (2, 1))
        self.assertEqual(twin.forth(), "hear")
        self.assertEqual(twin.book("b"), ("ab", "b"))
        self.assertEqual(ledger.book("b"), ("ab",))
        self.assertEqual([twin.back(), twin.back(), twin.back()], ["hear", "keep", "keep"])
        self.assertEqual(ledger.many(), (2, 1))
        self.assertEqual(ledger.forth(), "hear")

    def test_each_goes_by_itself(self):
        ledger = ledger_of({"a": ANNAS}, 1)
        twin = ledger.twin()
        ledger.keep("b", ("b",))
        self.assertEqual((twin.titles(), twin.many()), (["a"], (1, 0)))
        twin.hear("a", "x")
        self.assertEqual(ledger.book("a"), ANNAS)
        twin.drop("a")
        self.assertEqual((ledger.titles(), ledger.many()), (["a", "b"], (2, 0)))
        ledger.drop("b")
        ledger.back()
        self.assertEqual((twin.titles(), twin.many()), ([], (3, 0)))
        twin.back()
        self.assertEqual(ledger.many(), (2, 1))
        self.assertEqual(twin.many(), (2, 1))
        twin.keep("c", ("c",))
        self.assertEqual(ledger.forth(), "drop")
        self.assertIs(refusal(twin.forth), Nothing)

    def test_the_order_is_the_same(self):
        for order in ORDERS:
            ledger = ledger_of({"a": ANNAS}, order)
            self.assertEqual(ledger.twin().makers_of("an"), ["a"] if order == 1 else [])

    def test_two_ledgers(self):
        one, other = Ledger(1), Ledger(1)
        one.keep("a", ANNAS)
        self.assertEqual((other.titles(), other.many()), ([], (0, 0)))


class StepByStep(unittest.TestCase):
    """Ledgers held against a slow second one, through many steps."""

    def one_step(self, ledger, slow, source):
        books = slow.now()
        title, name = source.choice(TITLES), source.choice(SOME_NAMES)
        choice = source.choice(("keep", "keep", "drop", "hear", "hear", "hear", "back", "back", "forth"))
        if choice == "keep":
            book = source.choice(MANY_BOOKS)
            self.assertIs(ledger.keep(title, book), title in books)
            slow.step({**books, title: book}, choice)
        elif choice in ("drop", "hear") and title not in books:
            things = [title] if choice == "drop" else [title, name]
            self.assertIs(refusal(getattr(ledger, choice), *things), Nothing)
        elif choice == "drop":
            rest = {other: book for other, book in books.items() if other != title}
            self.assertEqual(ledger.drop(title), books[title])
            slow.step(rest, choice)
        elif choice == "hear" and len(books[title]) == 8:
            self.assertIs(refusal(ledger.hear, title, name), NoBook)
        elif choice == "hear":
            longer = books[title] + (name,)
            self.assertEqual(ledger.hear(title, name), len(longer))
            slow.step({**books, title: longer}, choice)
        elif slow.many()[0 if choice == "back" else 1] == 0:
            self.assertIs(refusal(getattr(ledger, choice)), Nothing)
        else:
            self.assertEqual(getattr(ledger, choice)(), getattr(slow, choice)())

    def test_like_a_slow_ledger(self):
        for seed in range(6):
            source = random.Random(seed)
            order = ORDERS[seed % 3]
            ledger, slow = Ledger(order), SlowSteps({})
            for step in range(100):
                self.one_step(ledger, slow, source)
                if step % 30 == 29:
                    ledger = ledger.twin()
                self.assertEqual(all_of(ledger), slow_all(slow.now(), order, slow.many()))


class Refusals(unittest.TestCase):
    def setUp(self):
        self.ledger = ledger_of({"a": ANNAS, "b": ("b",) * 8}, 1)
        self.ledger.keep("c", ("c",))
        self.ledger.back()

    def nothing_changed(self, method, things, wanted):
        before = all_of(self.ledger)
        self.assertIs(refusal(method, *things), wanted, repr(things))
        self.assertEqual(all_of(self.ledger), before)

    def test_what_is_no_order(self):
        for thing in NO_ORDERS + (0, 4, True, False, "1", -1, 99):
            self.assertIs(refusal(Ledger, thing), NoOrder, repr(thing))

    def test_what_is_no_title(self):
        for thing in NO_NAMES:
            self.nothing_changed(self.ledger.keep, [thing, ANNAS], NoName)
            self.nothing_changed(self.ledger.keep, [thing, thing], NoName)
            self.nothing_changed(self.ledger.drop, [thing], NoName)
            self.nothing_changed(self.ledger.book, [thing], NoName)
            self.nothing_changed(self.ledger.hear, [thing, "a"], NoName)
            self.nothing_changed(self.ledger.hear, [thing, thing], NoName)

    def test_what_is_no_book(self):
        for thing in NO_BOOKS:
            self.nothing_changed(self.ledger.keep, ["a", thing], NoBook)
            self.nothing_changed(self.ledger.keep, ["x", thing], NoBook)

    def test_what_is_no_name(self):
        for thing in NO_NAMES:
            for method in (self.ledger.tellers, self.ledger.makers_of, self.ledger.best_of):
                self.nothing_changed(method, [thing], NoName)
            for title in ("a", "b", "c"):
                self.nothing_changed(self.ledger.hear, [title, thing], NoName)

    def test_no_name_of_an_empty_ledger(self):
        ledger = Ledger(1)
        for thing in STRANGE_THINGS:
            for method in (ledger.tellers, ledger.makers_of, ledger.best_of, ledger.drop, ledger.book):
                self.assertIs(refusal(method, thing), NoName, repr(thing))

    def test_a_title_without_a_book(self):
        for title in ("c", "x", "ab", "abcdefgh"):
            self.nothing_changed(self.ledger.drop, [title], Nothing)
            self.nothing_changed(self.ledger.book, [title], Nothing)
            self.nothing_changed(self.ledger.hear, [title, "a"], Nothing)

    def test_nothing_behind_all(self):
        self.nothing_changed(self.ledger.hear, ["c", ""], NoName)
        self.nothing_changed(self.ledger.hear, ["c", None], NoName)
        self.nothing_changed(self.ledger.hear, ["", "a"], NoName)
        self.nothing_changed(self.ledger.hear, ["b", ""], NoName)
        self.nothing_changed(self.ledger.hear, ["b", "a"], NoBook)

    def test_what_is_right_is_not_refused(self):
        for book in MANY_BOOKS:
            for title in ("a", "x", "abcdefgh"):
                self.assertIsNone(refusal(self.ledger.keep, title, book))
                self.assertIsNone(refusal(self.ledger.book, title))
                self.assertIsNone(refusal(self.ledger.drop, title))


class Told(unittest.TestCase):
    def test_new_lists_each_time(self):
        ledger = ledger_of({"a": ANNAS, "b": ("anna",)}, 1)
        before = all_of(ledger)
        for told in (ledger.titles(), ledger.tellers("anna"), ledger.makers_of("anna")):
            self.assertEqual(told, ["a", "b"])
            told.append("x")
            told[0] = None
            self.assertEqual(all_of(ledger), before)

    def test_a_list_told_before_stays_as_it_was(self):
        ledger = ledger_of({"a": ANNAS}, 1)
        told = ledger.titles()
        ledger.keep("b", ANNAS)
        self.assertEqual(told, ["a"])

    def test_asked_again_it_tells_the_same(self):
        ledger = ledger_of({"a": ANNAS, "b": ("anna",)}, 1)
        self.assertEqual(all_of(ledger), all_of(ledger))


if __name__ == "__main__":
    unittest.main()
