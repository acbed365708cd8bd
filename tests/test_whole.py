"""The whole program: 0.2 (a) to (l), sentence by sentence, and 0.3."""

import copy
import importlib
import unittest

from kinnames import errors
from kinnames.begun import how_many_begun, next_letters, share_begun
from kinnames.books import behind, is_book, is_name, table
from kinnames.drawing import drawn, numbers_for
from kinnames.holding import share_fitting
from kinnames.keepers import Keeper
from kinnames.ledgers import Ledger
from kinnames.lengths import all_made, how_many, share_of_length
from kinnames.likely import likeliest
from kinnames.pens import Pen
from kinnames.shares import added, is_less, makes, share, steps, times
from kinnames.supports import best_maker, makers, needed, shows
from kinnames.texts import book_text, read_book
from kinnames.together import lacking, makes_all, mixed
from kinnames.wishes import fits, is_wish
from tests.helpers import (
    ALL_WANTED, EVEN_BOOK, MANY_BOOKS, NONE_TOLD, ORDERS, STRANGE_THINGS, refusal, sample_wishes, ten_deep,
)
from tests.test_interface import CLASSES, FUNCTIONS

ANNAS = ("anna", "ann")
BOOKS = MANY_BOOKS[::2] + (ANNAS, EVEN_BOOK)
LETTERS = "abcdefghijklmnopqrstuvwxyz"
BOOKS_AND_ORDERS = [(book, order) for book in BOOKS for order in ORDERS]


def names_made(book, order, longest=8):
    return [name for length in range(1, longest + 1) for name in all_made(book, order, length)]


def some_made(book, order):
    names = names_made(book, order)
    return sorted(set(names[:4] + names[-4:] + names[::max(1, len(names) // 6)] + list(book)))


class Promises(unittest.TestCase):
    def test_a_what_stands_behind_an_end_stands_there_in_a_told_name(self):
        for book, order in BOOKS_AND_ORDERS:
            for end, row in table(book, order):
                for letter, often in row:
                    places = [
                        (name, place) for name in book for place in range(len(name) + 1)
                        if name[max(0, place - order):place] == end and name[place:place + 1] == letter
                    ]
                    self.assertEqual(len(places), often, (book, order, end, letter))

    def test_a_each_told_name_is_made(self):
        for book, order in BOOKS_AND_ORDERS:
            for name in book:
                self.assertIs(makes(book, order, name), True)
                self.assertIn(name, all_made(book, order, len(name)))

    def test_b_a_share_is_made_of_its_steps(self):
        for book, order in BOOKS_AND_ORDERS:
            for name in some_made(book, order) + ["x", "aax"]:
                product = (1, 1)
                for end, letter, part in steps(book, order, name):
                    product = times(product, part)
                self.assertEqual(share(book, order, name), product)

    def test_b_the_shares_of_a_length(self):
        for book, order in BOOKS_AND_ORDERS:
            for length in range(1, 7):
                names = all_made(book, order, length)
                total = (0, 1)
                for name in names:
                    total = added(total, share(book, order, name))
                self.assertEqual(share_of_length(book, order, length), total)
                self.assertEqual(how_many(book, order, length), len(names))

    def test_b_a_book_told_over_and_over(self):
        for book, order in BOOKS_AND_ORDERS:
            for times_told in range(2, 8 // len(book) + 1):
                more = book * times_told
                for name in some_made(book, order) + ["x"]:
                    self.assertEqual(share(more, order, name), share(book, order, name))
                self.assertEqual(share_fitting(more, order, NONE_TOLD), share_fitting(book, order, NONE_TOLD))
                self.assertEqual(likeliest(more, order, ALL_WANTED, 5), likeliest(book, order, ALL_WANTED, 5))
                self.assertIs(makes_all(book, more, order), True)
                self.assertIs(makes_all(more, book, order), True)

    def test_c_with_a_greater_order_no_name_more(self):
        for book in BOOKS:
            for order in (1, 2):
                for length in range(1, 7):
                    self.assertLessEqual(set(all_made(book, order + 1, length)), set(all_made(book, order, length)))

    def test_d_likeliest_ones(self):
        for book, order in BOOKS_AND_ORDERS[::2]:
            for wish in sample_wishes(book)[::4]:
                told = likeliest(book, order, wish, 20)
                for part, name in told:
                    self.assertTrue(fits(book, wish, name) and makes(book, order, name))
                    self.assertEqual(part, share(book, order, name))
                for (part, name), (other, behind_it) in zip(told, told[1:]):
                    self.assertTrue(is_less(other, part) or (other == part and name < behind_it))
                names = [name for part, name in told]
                total = (0, 1)
                for name in names_made(book, order):
                    if fits(book, wish, name):
                        total = added(total, share(book, order, name))
                        if name not in names:
                            self.assertEqual(len(told), 20)
                            self.assertFalse(is_less(told[-1][0], share(book, order, name)))
                self.assertEqual(share_fitting(book, order, wish), total)

    def test_e_numbers_draw_the_name_that_they_are_told_for(self):
        for book, order in BOOKS_AND_ORDERS:
            for name in some_made(book, order):
                numbers = numbers_for(book, order, name)
                self.assertEqual(drawn(book, order, numbers + [5, 9999]), (name, len(name) + 1))

    def test_e_each_number_picks_as_often_as_a_letter_is_there(self):
        for book, order in BOOKS_AND_ORDERS:
            row = behind(book, order, "")
            firsts = []
            for number in range(len(book)):
                # What comes behind the first letter does not matter; some numbers lead to an end.
                tries = [[number] + [more] * 98 for more in range(12)]
                ended = [numbers for numbers in tries if refusal(drawn, book, order, numbers) is None]
                firsts.extend({drawn(book, order, numbers)[0][0] for numbers in ended})
            self.assertEqual([(letter, firsts.count(letter)) for letter in sorted(set(firsts))], row)

    def test_f_with_names_more_no_name_fewer(self):
        for book, order in BOOKS_AND_ORDERS:
            for more in (("a",), ("mab",), ("zx", "ann")):
                for longer in (book + more, more + book):
                    if is_book(longer):
                        for name in some_made(book, order):
                            self.assertTrue(makes(longer, order, name))

    def test_f_the_names_needed(self):
        for book, order in BOOKS_AND_ORDERS:
            for name in some_made(book, order):
                places = needed(book, order, name)
                self.assertIs(shows(book, order, name, places), True)
                self.assertTrue(makes(tuple(book[place] for place in places), order, name))
                for missing in places:
                    rest = tuple(book[place] for place in places if place != missing)
                    self.assertFalse(rest and makes(rest, order, name))

    def test_g_texts_read_back(self):
        texts = {}
        for book in MANY_BOOKS:
            self.assertEqual(read_book(book_text(book)), book)
            self.assertEqual(texts.setdefault(book_text(book), book), book)
            for text in (book_text(book)[:-1], book_text(book) + "\n", " " + book_text(book)):
                self.assertIs(refusal(read_book, text), errors.NoText)

    def test_h_makes_all_or_a_shortest_name(self):
        for one, order in BOOKS_AND_ORDERS[::2]:
            for other in BOOKS:
                name = lacking(one, other, order)
                self.assertIs(makes_all(one, other, order), name is None)
                if name is not None:
                    self.assertTrue(makes(other, order, name) and not makes(one, order, name))
                for shorter in names_made(other, order, 4 if name is None else min(4, len(name) - 1)):
                    self.assertTrue(makes(one, order, shorter))

    def test_h_mixed_books(self):
        for one, order in BOOKS_AND_ORDERS[::2]:
            for other in (("a",), ("ab", "mira")):
                if is_book(one + other):
                    both = mixed(one, other)
                    for name in some_made(one, order) + some_made(other, order):
                        self.assertTrue(makes(both, order, name))
                    self.assertTrue(makes_all(both, one, order) and makes_all(both, other, order))

    def test_i_names_begun(self):
        for book, order in BOOKS_AND_ORDERS:
            for text in ["", "a", book[0][:2], book[-1][:3], book[0]]:
                if len(text) < 8:
                    itself = text != "" and makes(book, order, text)
                    many = int(itself)
                    part = share(book, order, text) if itself else (0, 1)
                    for letter in LETTERS:
                        many += how_many_begun(book, order, text + letter)
                        part = added(part, share_begun(book, order, text + letter))
                    self.assertEqual(how_many_begun(book, order, text), many)
                    self.assertEqual(share_begun(book, order, text), part)

    def test_k_a_pen_writes_what_can_be_ended_alone(self):
        for book, order in BOOKS_AND_ORDERS:
            pen = Pen(book, order)
            texts = [pen.text()]
            while pen.letters():
                self.assertLessEqual(set(pen.letters()), {pair[0] for pair in next_letters(book, order, pen.text())})
                pen.add(pen.letters()[-1])
                texts.append(pen.text())
                self.assertGreater(how_many_begun(book, order, pen.text()), 0)
                self.assertIs(pen.may_end(), makes(book, order, pen.text()))
            self.assertIs(pen.may_end(), True)
            for text in texts[-2::-1]:
                pen.back()
                self.assertEqual(pen.text(), text)
            for text in texts[1:]:
                pen.forth()
                self.assertEqual(pen.text(), text)

    def test_l_a_ledger_tells_what_its_books_tell(self):
        titles = ["t" + LETTERS[place] for place in range(len(BOOKS))]
        for order in ORDERS:
            ledger = Ledger(order)
            for title, book in zip(titles, BOOKS):
                ledger.keep(title, book)
            for name in ("anna", "a", "ab", "axv", "q"):
                places = makers(list(BOOKS), order, name)
                self.assertEqual(ledger.makers_of(name), [titles[place] for place in places])
                best = best_maker(list(BOOKS), order, name)
                self.assertEqual(ledger.best_of(name), None if best is None else titles[best])
            twin = ledger.twin()
            twin.drop(titles[0])
            self.assertEqual(ledger.titles(), titles)
            for title in reversed(titles):
                ledger.back()
                self.assertNotIn(title, ledger.titles())
            self.assertEqual(twin.titles(), titles[1:])


# For each function of the interface things that it takes, of which lists are told where there are any.
SAMPLES = {
    "is_name": ["anna"], "is_book": [ANNAS], "table": [ANNAS, 1], "behind": [ANNAS, 1, "an"],
    "added": [(1, 2), (1, 3)], "times": [(1, 2), (1, 3)], "less": [(1, 2), (1, 3)], "is_less": [(1, 2), (1, 3)],
    "steps": [ANNAS, 1, "an"], "share": [ANNAS, 1, "an"], "makes": [ANNAS, 1, "an"],
    "likelier": [ANNAS, 1, "an", "ann"],
    "how_many": [ANNAS, 1, 4], "share_of_length": [ANNAS, 1, 4], "share_up_to": [ANNAS, 1, 4],
    "all_made": [ANNAS, 1, 4], "lengths": [ANNAS, 1],
    "is_wish": [NONE_TOLD], "fits": [ANNAS, NONE_TOLD, "an"],
    "likeliest": [ANNAS, 1, NONE_TOLD, 5], "place_of": [ANNAS, 1, NONE_TOLD, "ana"],
    "share_fitting": [ANNAS, 1, NONE_TOLD], "can_fit": [ANNAS, 1, NONE_TOLD],
    "drawn": [ANNAS, 1, [0, 1, 2, 0, 7]], "drawn_fitting": [ANNAS, 1, NONE_TOLD, [0, 1, 2, 0, 0, 1, 0]],
    "numbers_for": [ANNAS, 1, "ana"],
    "makers": [[ANNAS, ("a",), ANNAS], 1, "an"], "best_maker": [[ANNAS, ("a",)], 1, "a"],
    "greatest_order": [ANNAS, "an"], "needed": [EVEN_BOOK, 1, "axv"], "shows": [EVEN_BOOK, 1, "axv", [0, 1]],
    "mixed": [ANNAS, ("a",)], "shared_ends": [ANNAS, ("ab",), 1], "lacking": [("a",), ANNAS, 1],
    "best_for": [[("a",), ANNAS], 1, ["an", "ann"]], "makes_all": [ANNAS, ("ann",), 1],
    "next_letters": [ANNAS, 1, "an"], "how_many_begun": [ANNAS, 1, "an"], "share_begun": [ANNAS, 1, "an"],
    "likeliest_begun": [ANNAS, 1, "an"],
    "book_text": [ANNAS], "table_text": [ANNAS, 1], "read_book": ["anna\nann\n"],
}
LISTS_TOLD = {
    "table", "behind", "steps", "all_made", "lengths", "likeliest", "numbers_for", "makers", "needed", "shared_ends",
    "next_letters",
}
TRUTHS_TOLD = {"is_name", "is_book", "is_less", "makes", "is_wish", "fits", "can_fit", "shows", "makes_all"}


def functions():
    for module, names in FUNCTIONS.items():
        for name in names:
            yield name, getattr(importlib.import_module(module), name)


class Told(unittest.TestCase):
    def test_each_function_has_its_sample(self):
        self.assertEqual(sorted(SAMPLES), sorted(name for name, function in functions()))

    def test_asked_again_all_tell_the_same(self):
        for name, function in functions():
            self.assertEqual(function(*SAMPLES[name]), function(*SAMPLES[name]), name)

    def test_what_is_handed_in_is_as_it_was(self):
        for name, function in functions():
            things = copy.deepcopy(SAMPLES[name])
            function(*things)
            self.assertEqual(repr(things), repr(SAMPLES[name]), name)

    def test_lists_are_new_ones_each_time(self):
        for name, function in functions():
            told = function(*SAMPLES[name])
            self.assertIs(isinstance(told, list), name in LISTS_TOLD, name)
            if name in LISTS_TOLD:
                kept = list(told)
                self.assertIsNot(function(*SAMPLES[name]), told, name)
                told.reverse()
                told.append(None)
                del told[0]
                self.assertEqual(function(*SAMPLES[name]), kept, name)

    def test_truths_are_truths(self):
        for name, function in functions():
            self.assertIs(isinstance(function(*SAMPLES[name]), bool), name in TRUTHS_TOLD, name)

    def test_a_list_told_can_be_handed_in(self):
        numbers = numbers_for(ANNAS, 1, "anna")
        self.assertEqual(drawn(ANNAS, 1, numbers), ("anna", len(numbers)))
        places = needed(EVEN_BOOK, 1, "axv")
        self.assertIs(shows(EVEN_BOOK, 1, "axv", places), True)


class Refused(unittest.TestCase):
    def test_all_that_is_raised_stands_under_like_error(self):
        for name, function in functions():
            if name in ("added", "times", "less", "is_less", "is_name", "is_book", "is_wish"):
                continue
            for place in range(len(SAMPLES[name])):
                for thing in STRANGE_THINGS + (ALL_WANTED, "", 1, ANNAS):
                    things = list(SAMPLES[name])
                    things[place] = thing
                    raised = refusal(function, *things)
                    self.assertTrue(raised is None or raised.__bases__ == (errors.LikeError,), (name, things))

    def test_any_thing_where_it_is_only_asked(self):
        for thing in STRANGE_THINGS + (ten_deep(True, list), ten_deep("", tuple), ALL_WANTED, [ALL_WANTED]):
            for function in (is_name, is_book, is_wish):
                self.assertIs(type(function(thing)), bool)

    def test_truths_are_no_whole_numbers(self):
        for truth in (True, False):
            self.assertIs(refusal(table, ANNAS, truth), errors.NoOrder)
            self.assertIs(refusal(how_many, ANNAS, 1, truth), errors.NoNumber)
            self.assertIs(refusal(likeliest, ANNAS, 1, ALL_WANTED, truth), errors.NoNumber)
            self.assertIs(refusal(drawn, ANNAS, 1, [truth, 0]), errors.NoNumber)
            self.assertIs(refusal(drawn, ANNAS, 1, (0, truth)), errors.NoNumber)
            self.assertIs(is_wish((truth, 8, "", "", (), True)), False)
            self.assertIs(is_wish((1, truth, "", "", (), True)), False)
            self.assertIs(shows(("a", "a"), 1, "a", [truth]), False)
            for kind in (Keeper, Ledger):
                self.assertIs(refusal(kind, truth), errors.NoOrder)
            self.assertIs(refusal(Pen, ANNAS, truth), errors.NoOrder)

    def test_each_class_refuses_under_like_error(self):
        self.assertEqual(len(CLASSES), 3)
        for thing in STRANGE_THINGS:
            self.assertIs(refusal(Keeper, thing), errors.NoOrder)
            self.assertIs(refusal(Ledger, thing), errors.NoOrder)
            self.assertIs(refusal(Pen, thing, thing), errors.NoBook)


if __name__ == "__main__":
    unittest.main()
