"""Pens: 0.2 (k), 0.3, 11.1 and 11.2."""

import random
import unittest
from fractions import Fraction

from kinnames.begun import how_many_begun, likeliest_begun
from kinnames.errors import NoBook, NoName, NoOrder, Nothing
from kinnames.pens import Pen
from kinnames.shares import makes, steps
from tests.helpers import (
    EVEN_BOOK, MANY_BOOKS, NO_BOOKS, NO_ORDERS, ORDERS, SMALL_BOOKS, STRANGE_THINGS, WIDE_BOOK, SlowSteps, as_tuple,
    refusal, slow_begun, slow_made, slow_row,
)

ANNAS = ("anna", "ann")
LETTERS = "abcdefghijklmnopqrstuvwxyz"


def all_of(pen):
    return (pen.text(), pen.letters(), pen.may_end(), pen.part(), pen.many())


def written(book, order, text):
    pen = Pen(book, order)
    for letter in text:
        pen.add(letter)
    return pen


def slow_letters(book, order, text):
    return sorted({name[len(text)] for name in slow_begun(book, order, text) if name != text})


def slow_part(book, order, text):
    product = Fraction(1)
    for place, letter in enumerate(text):
        row = dict(slow_row(book, order, text[max(0, place - order):place]))
        product *= Fraction(row[letter], sum(row.values()))
    return as_tuple(product)


class Written(unittest.TestCase):
    def held(self, pen, text, letters, may_end, part, many):
        self.assertEqual(pen.text(), text)
        self.assertEqual(pen.letters(), letters)
        self.assertIs(pen.may_end(), may_end)
        self.assertEqual(pen.part(), part)
        self.assertEqual(pen.many(), many)

    def test_a_new_pen(self):
        self.held(Pen(ANNAS, 1), "", ["a"], False, (1, 1), (0, 0))
        self.held(Pen(("b", "a", "c", "a"), 3), "", ["a", "b", "c"], False, (1, 1), (0, 0))

    def test_step_by_step(self):
        pen = Pen(ANNAS, 1)
        self.assertIsNone(pen.add("a"))
        self.held(pen, "a", ["n"], True, (1, 1), (1, 0))
        self.assertIsNone(pen.add("n"))
        self.held(pen, "an", ["a", "n"], True, (2, 3), (2, 0))
        self.assertIsNone(pen.add("a"))
        self.held(pen, "ana", ["n"], True, (1, 6), (3, 0))
        self.assertEqual(pen.rub(), "a")
        self.held(pen, "an", ["a", "n"], True, (2, 3), (4, 0))
        self.assertIsNone(pen.add("n"))
        self.held(pen, "ann", ["a", "n"], True, (1, 3), (5, 0))
        self.assertEqual(pen.rub(), "n")
        self.assertEqual(pen.rub(), "n")
        self.assertEqual(pen.rub(), "a")
        self.held(pen, "", ["a"], False, (1, 1), (8, 0))

    def test_by_order_2(self):
        pen = Pen(ANNAS, 2)
        pen.add("a")
        self.held(pen, "a", ["n"], False, (1, 1), (1, 0))
        pen.add("n")
        self.held(pen, "an", ["n"], False, (1, 1), (2, 0))
        pen.add("n")
        self.held(pen, "ann", ["a"], True, (1, 1), (3, 0))
        pen.add("a")
        self.held(pen, "anna", [], True, (1, 2), (4, 0))

    def test_finish(self):
        pen = Pen(ANNAS, 2)
        self.assertEqual(pen.finish(), "ann")
        self.held(pen, "ann", ["a"], True, (1, 1), (1, 0))
        self.assertEqual(pen.finish(), "ann")
        self.held(pen, "ann", ["a"], True, (1, 1), (2, 0))
        pen.add("a")
        self.assertEqual(pen.finish(), "anna")
        self.held(pen, "anna", [], True, (1, 2), (4, 0))

    def test_finish_of_the_empty_text(self):
        for book in MANY_BOOKS + (WIDE_BOOK,):
            for order in ORDERS:
                pen = Pen(book, order)
                self.assertEqual(pen.finish(), likeliest_begun(book, order, ""))
                self.assertEqual(pen.text(), likeliest_begun(book, order, ""))
                self.assertEqual(pen.many(), (1, 0))

    def test_letters_near_the_eighth(self):
        # By order 1 each b must be followed by a c, which alone ends a name.
        book = ("aabc",)
        pen = written(book, 1, "aaaaa")
        self.assertEqual(pen.letters(), ["a", "b"])
        pen.add("a")
        self.held(pen, "aaaaaa", ["b"], False, (1, 32), (6, 0))
        self.assertIs(refusal(pen.add, "a"), NoName)
        pen.add("b")
        self.held(pen, "aaaaaab", ["c"], False, (1, 64), (7, 0))
        pen.add("c")
        self.held(pen, "aaaaaabc", [], True, (1, 64), (8, 0))
        for letter in LETTERS:
            self.assertIs(refusal(pen.add, letter), NoName)

    def test_eight_letters_are_the_most(self):
        pen = written(("aa",), 1, "aaaaaaa")
        self.held(pen, "aaaaaaa", ["a"], True, (1, 64), (7, 0))
        pen.add("a")
        self.held(pen, "aaaaaaaa", [], True, (1, 128), (8, 0))
        self.assertIs(refusal(pen.add, "a"), NoName)

    def test_a_way_that_needs_more_than_is_left(self):
        # Behind each c six letters more are needed, or seven with it.
        book = ("abcdefgh", "ha", "gb")
        self.assertEqual(written(book, 1, "ab").letters(), ["c"])
        self.assertEqual(written(book, 1, "hab").letters(), [])
        self.assertEqual(written(book, 1, "gb").letters(), ["c"])
        self.assertEqual(written(book, 1, "hab").finish(), "hab")
        self.assertEqual(written(book, 1, "abcdefg").letters(), ["b", "h"])
        self.assertEqual(written(book, 1, "abcdefgh").letters(), [])
        self.assertIs(refusal(written(book, 1, "hab").add, "c"), NoName)

    def test_like_slow_reckoning(self):
        for book in MANY_BOOKS + SMALL_BOOKS[::29]:
            for order in ORDERS:
                made = slow_made(book, order)
                names = sorted(made)
                for name in names[:5] + names[-5:] + names[::max(1, len(names) // 8)]:
                    pen = Pen(book, order)
                    for place in range(len(name) + 1):
                        text = name[:place]
                        wanted = (text, slow_letters(book, order, text), text in made, slow_part(book, order, text))
                        self.assertEqual(all_of(pen), wanted + ((place, 0),), (book, order, text))
                        self.assertIs(type(pen.letters()), list)
                        self.assertIs(type(pen.may_end()), bool)
                        self.assertIs(type(pen.part()), tuple)
                        if place < len(name):
                            pen.add(name[place])

    def test_all_texts_that_can_be_ended(self):
        """A walk by letters alone comes by all names that are made, and by nothing that cannot be ended."""
        for book in (("aabc",), ANNAS, ("abcdefgh", "ha", "gb"), ("aab", "b"), EVEN_BOOK, ("abba", "baab")):
            for order in ORDERS:
                found, waiting = [], [Pen(book, order)]
                while waiting:
                    pen = waiting.pop()
                    self.assertGreater(how_many_begun(book, order, pen.text()), 0)
                    if pen.may_end():
                        found.append(pen.text())
                    for letter in pen.letters():
                        longer = pen.twin()
                        longer.add(letter)
                        waiting.append(longer)
                self.assertEqual(sorted(found), sorted(slow_made(book, order)))

    def test_part_is_made_of_steps(self):
        for book in MANY_BOOKS:
            for name in book:
                told = steps(book, 2, name)
                pen = written(book, 2, name)
                up, down = pen.part()
                product = Fraction(1)
                for end, letter, part in told[:-1]:
                    product *= Fraction(*part)
                self.assertEqual(Fraction(up, down), product)
                self.assertIs(pen.may_end(), True)


class BackAndForth(unittest.TestCase):
    def test_each_step_and_its_word(self):
        pen = Pen(ANNAS, 1)
        words = ["add", "add", "rub", "add", "finish", "finish", "rub", "rub", "finish"]
        told, seen = [], [all_of(pen)[:4]]
        for step in (lambda: pen.add("a"), lambda: pen.add("n"), pen.rub, lambda: pen.add("n"), pen.finish, pen.finish,
                     pen.rub, pen.rub, pen.finish):
            told.append(step())
            seen.append(all_of(pen)[:4])
        self.assertEqual(told, [None, None, "n", None, "an", "an", "n", "a", "a"])
        for time in range(2):
            for place in range(len(words) - 1, -1, -1):
                self.assertEqual(pen.many(), (place + 1, len(words) - 1 - place))
                self.assertEqual(pen.back(), words[place])
                self.assertEqual(all_of(pen)[:4], seen[place])
            self.assertIs(refusal(pen.back), Nothing)
            self.assertEqual(pen.many(), (0, len(words)))
            self.assertEqual(pen.text(), "")
            for place in range(len(words)):
                self.assertEqual(pen.forth(), words[place])
                self.assertEqual(all_of(pen)[:4], seen[place + 1])
            self.assertIs(refusal(pen.forth), Nothing)
            self.assertEqual(pen.many(), (len(words), 0))

    def test_the_word_is_not_what_the_step_told(self):
        pen = Pen(("z", "bba"), 2)
        self.assertIsNone(pen.add("b"))
        self.assertEqual([pen.back(), pen.forth()], ["add", "add"])
        self.assertEqual(pen.rub(), "b")
        self.assertEqual(pen.back(), "rub")
        self.assertEqual(pen.finish(), "bba")
        self.assertEqual(pen.back(), "finish")
        self.assertEqual((pen.text(), pen.many()), ("b", (1, 1)))

    def test_the_likeliest_of_like_ones_behind_a_rub(self):
        # Both names have the share (1, 2) by order 2, so the first in the alphabet is the likeliest.
        pen = written(("z", "bba"), 2, "b")
        self.assertEqual(pen.rub(), "b")
        self.assertEqual([pen.finish(), pen.finish()], ["bba", "bba"])
        for one in (pen.twin(), pen):
            self.assertEqual([one.back() for time in range(4)], ["finish", "finish", "rub", "add"])
            self.assertEqual((one.text(), one.many()), ("", (0, 4)))
            self.assertEqual([one.forth() for time in range(4)], ["add", "rub", "finish", "finish"])
            self.assertEqual((one.text(), one.many()), ("bba", (4, 0)))

    def test_a_step_that_changed_nothing(self):
        pen = written(("a",), 1, "a")
        self.assertEqual(pen.finish(), "a")
        self.assertEqual(pen.many(), (2, 0))
        self.assertEqual(pen.back(), "finish")
        self.assertEqual((pen.text(), pen.many()), ("a", (1, 1)))
        self.assertEqual(pen.back(), "add")
        self.assertEqual((pen.text(), pen.many()), ("", (0, 2)))
        self.assertEqual(pen.forth(), "add")
        self.assertEqual(pen.forth(), "finish")
        self.assertEqual((pen.text(), pen.many()), ("a", (2, 0)))

    def test_nothing_at_first(self):
        pen = Pen(ANNAS, 1)
        self.assertIs(refusal(pen.back), Nothing)
        self.assertIs(refusal(pen.forth), Nothing)
        self.assertEqual(all_of(pen), ("", ["a"], False, (1, 1), (0, 0)))

    def test_forth_behind_another_step(self):
        pen = written(ANNAS, 1, "ann")
        pen.back()
        pen.back()
        self.assertEqual(pen.many(), (1, 2))
        pen.add("n")
        self.assertEqual(pen.many(), (2, 0))
        self.assertIs(refusal(pen.forth), Nothing)
        self.assertEqual((pen.text(), pen.many()), ("an", (2, 0)))
        for step in (pen.rub, pen.finish, lambda: pen.add("n")):
            pen.back()
            self.assertEqual(pen.many()[1], 1)
            step()
            self.assertEqual(pen.many()[1], 0)
            self.assertIs(refusal(pen.forth), Nothing)

    def test_a_refused_step_is_none(self):
        pen = written(ANNAS, 1, "an")
        pen.back()
        pen.back()
        for method, things, wanted in ((pen.add, ["x"], NoName), (pen.rub, [], Nothing), (pen.back, [], Nothing)):
            self.assertIs(refusal(method, *things), wanted)
            self.assertEqual(all_of(pen), ("", ["a"], False, (1, 1), (0, 2)))
        self.assertEqual([pen.forth(), pen.forth()], ["add", "add"])
        self.assertEqual(pen.text(), "an")

    def test_asking_is_no_step(self):
        pen = written(ANNAS, 1, "an")
        pen.back()
        all_of(pen)
        pen.twin()
        self.assertEqual(pen.many(), (1, 1))
        pen.forth()
        self.assertEqual(pen.text(), "an")


class Twins(unittest.TestCase):
    def test_as_this_one(self):
        pen = written(ANNAS, 1, "ann")
        pen.finish()
        pen.back()
        pen.back()
        twin = pen.twin()
        self.assertIsInstance(twin, Pen)
        self.assertEqual(all_of(twin), all_of(pen))
        self.assertEqual(twin.many(), (2, 2))
        self.assertEqual([twin.forth(), twin.forth()], ["add", "finish"])
        self.assertEqual(twin.text(), "ann")
        self.assertEqual(all_of(pen), ("an", ["a", "n"], True, (2, 3), (2, 2)))
        self.assertEqual([twin.back() for time in range(4)], ["finish", "add", "add", "add"])
        self.assertEqual(pen.many(), (2, 2))

    def test_each_goes_by_itself(self):
        pen = written(ANNAS, 1, "an")
        twin = pen.twin()
        pen.add("a")
        self.assertEqual((twin.text(), twin.many()), ("an", (2, 0)))
        twin.add("n")
        twin.add("n")
        self.assertEqual((pen.text(), pen.many()), ("ana", (3, 0)))
        pen.back()
        self.assertEqual((twin.text(), twin.many()), ("annn", (4, 0)))
        twin.back()
        twin.rub()
        self.assertEqual((pen.text(), pen.many()), ("an", (2, 1)))
        self.assertEqual(pen.forth(), "add")
        self.assertEqual(pen.text(), "ana")
        self.assertIs(refusal(twin.forth), Nothing)

    def test_a_twin_of_a_twin(self):
        pen = written(EVEN_BOOK, 1, "ax")
        one = pen.twin()
        one.add("u")
        other = one.twin()
        one.back()
        one.add("z")
        self.assertEqual([pen.text(), one.text(), other.text()], ["ax", "axz", "axu"])
        self.assertEqual([pen.many(), one.many(), other.many()], [(2, 0), (3, 0), (3, 0)])

    def test_two_pens_of_one_book(self):
        one, other = Pen(ANNAS, 1), Pen(ANNAS, 1)
        one.add("a")
        self.assertEqual((other.text(), other.many()), ("", (0, 0)))


class StepByStep(unittest.TestCase):
    """Pens held against a slow second one, through many steps."""

    def held(self, pen, book, order, slow):
        text = slow.now()
        wanted = (
            text, slow_letters(book, order, text), text in slow_made(book, order), slow_part(book, order, text),
            slow.many(),
        )
        self.assertEqual(all_of(pen), wanted)

    def one_step(self, pen, book, order, slow, source):
        text = slow.now()
        choice = source.choice(("add", "add", "add", "rub", "finish", "back", "back", "forth"))
        if choice == "add":
            letter = source.choice(slow_letters(book, order, text) + ["x", ""])
            if letter in slow_letters(book, order, text):
                self.assertIsNone(pen.add(letter))
                slow.step(text + letter, choice)
            else:
                self.assertIs(refusal(pen.add, letter), NoName)
        elif choice == "rub" and text == "":
            self.assertIs(refusal(pen.rub), Nothing)
        elif choice == "rub":
            self.assertEqual(pen.rub(), text[-1])
            slow.step(text[:-1], choice)
        elif choice == "finish":
            names = slow_begun(book, order, text)
            first = min(names, key=lambda name: (-names[name], name))
            self.assertEqual(pen.finish(), first)
            slow.step(first, choice)
        else:
            self.back_or_forth(pen, slow, choice)

    def back_or_forth(self, pen, slow, choice):
        if slow.many()[0 if choice == "back" else 1] == 0:
            self.assertIs(refusal(getattr(pen, choice)), Nothing)
        else:
            self.assertEqual(getattr(pen, choice)(), getattr(slow, choice)())

    def test_like_a_slow_pen(self):
        for seed, book in enumerate(MANY_BOOKS):
            source = random.Random(seed)
            order = ORDERS[seed % 3]
            pen, slow = Pen(book, order), SlowSteps("")
            for step in range(80):
                self.one_step(pen, book, order, slow, source)
                if step % 25 == 24:
                    pen = pen.twin()
                self.held(pen, book, order, slow)


class Refusals(unittest.TestCase):
    def test_what_is_no_book(self):
        for thing in NO_BOOKS:
            self.assertIs(refusal(Pen, thing, 1), NoBook, repr(thing))
            self.assertIs(refusal(Pen, thing, 0), NoBook, repr(thing))

    def test_what_is_no_order(self):
        for thing in NO_ORDERS + (0, 4, True, False, "1", -1, 99):
            self.assertIs(refusal(Pen, ANNAS, thing), NoOrder, repr(thing))

    def test_the_first_that_is_due(self):
        for thing in STRANGE_THINGS:
            self.assertIs(refusal(Pen, thing, thing), NoBook, repr(thing))

    def test_what_is_none_of_the_letters(self):
        things = ("", "x", "z", "b", "an", "na", "nn", "aa", "ann", "anna", 0, 1, 2, True, False, None, [], (), ["a"],
                  ["n"], ("n",), ("a", "n"), ["a", "n"], [["n"]], "N", "A", " ", "n ", " n", "n\n", "\u0430")
        pens = [written(ANNAS, 1, text) for text in ("an", "ann", "anan")]
        for pen in pens:
            pen.finish()
            pen.back()
            before = all_of(pen)
            for thing in STRANGE_THINGS + things:
                self.assertIs(refusal(pen.add, thing), NoName, repr(thing))
                self.assertEqual(all_of(pen), before)
            self.assertIsNone(refusal(pen.twin().add, "n"))

    def test_each_letter_is_taken_or_refused(self):
        for book in MANY_BOOKS:
            for order in ORDERS:
                pen = Pen(book, order)
                for letter in LETTERS:
                    wanted = None if letter in pen.letters() else NoName
                    self.assertIs(refusal(pen.twin().add, letter), wanted)

    def test_rub_of_the_empty_text(self):
        pen = Pen(ANNAS, 1)
        self.assertIs(refusal(pen.rub), Nothing)
        pen.add("a")
        pen.rub()
        self.assertIs(refusal(pen.rub), Nothing)
        self.assertEqual(all_of(pen), ("", ["a"], False, (1, 1), (2, 0)))


class Told(unittest.TestCase):
    def test_new_lists_each_time(self):
        pen = written(ANNAS, 1, "an")
        told = pen.letters()
        told.append("x")
        told[0] = None
        self.assertEqual(pen.letters(), ["a", "n"])
        self.assertIs(refusal(pen.add, "x"), NoName)
        kept = pen.letters()
        pen.add("a")
        self.assertEqual(kept, ["a", "n"])

    def test_asked_again_it_tells_the_same(self):
        for book in MANY_BOOKS:
            pen = Pen(book, 1)
            pen.finish()
            self.assertEqual(all_of(pen), all_of(pen))
            self.assertTrue(makes(book, 1, pen.text()))


if __name__ == "__main__":
    unittest.main()
