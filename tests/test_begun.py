"""Names begun with a text: 0.2 (i), 0.3, 10.1 and 10.2."""

import unittest
from fractions import Fraction

from kinnames.begun import how_many_begun, likeliest_begun, next_letters, share_begun
from kinnames.books import behind
from kinnames.errors import NoBook, NoName, NoOrder
from kinnames.lengths import how_many, share_up_to
from kinnames.likely import likeliest
from kinnames.shares import added, makes, share
from tests.helpers import (
    ALL_WANTED, EVEN_BOOK, MANY_BOOKS, NO_BOOKS, NO_ORDERS, NO_TEXTS, ORDERS, SMALL_BOOKS, STRANGE_THINGS, WIDE_BOOK,
    as_tuple, refusal, slow_begun, slow_made, slow_row,
)

ANNAS = ("anna", "ann")
LETTERS = "abcdefghijklmnopqrstuvwxyz"
FUNCTIONS = (next_letters, how_many_begun, share_begun, likeliest_begun)


def some_texts(book, order):
    """Beginnings of names that are made, some of 8 letters, and texts that begin none."""
    made = sorted(slow_made(book, order))
    some = made[:4] + made[-4:] + made[::max(1, len(made) // 10)] + list(book)
    texts = {name[:length] for name in some for length in range(len(name) + 1)}
    texts.update(name[1:] for name in book)
    texts.update((name + name)[:8] for name in book)
    return sorted(texts | {"x", "ax", "abx", "zzzz", "aaaaaaaa", "abababab", "annannan", "xxxxxxxx"})


class NextLetters(unittest.TestCase):
    def test_by_hand(self):
        self.assertEqual(next_letters(ANNAS, 1, ""), [("a", (1, 1))])
        self.assertEqual(next_letters(ANNAS, 1, "a"), [("n", (2, 3))])
        self.assertEqual(next_letters(ANNAS, 1, "an"), [("n", (1, 2)), ("a", (1, 4))])
        self.assertEqual(next_letters(ANNAS, 2, "ann"), [("a", (1, 2))])
        self.assertEqual(next_letters(("b", "b", "a", "c", "c", "c"), 1, ""), [
            ("c", (1, 2)), ("b", (1, 3)), ("a", (1, 6)),
        ])

    def test_like_parts_by_the_alphabet(self):
        self.assertEqual(next_letters(("c", "a", "b"), 1, ""), [("a", (1, 3)), ("b", (1, 3)), ("c", (1, 3))])
        self.assertEqual(next_letters(("z", "b", "z", "b", "a"), 1, ""), [
            ("b", (2, 5)), ("z", (2, 5)), ("a", (1, 5)),
        ])
        self.assertEqual(next_letters(EVEN_BOOK, 1, "ax"), [(letter, (1, 5)) for letter in "uvwyz"])

    def test_an_end_that_stands_nowhere(self):
        for order in ORDERS:
            self.assertEqual(next_letters(ANNAS, order, "x"), [])
            self.assertEqual(next_letters(ANNAS, order, "annax"), [])
        self.assertEqual(next_letters(ANNAS, 2, "n"), [])
        self.assertEqual(next_letters(ANNAS, 2, "aa"), [])

    def test_an_end_behind_which_the_end_alone_stands(self):
        self.assertEqual(next_letters(("ab",), 1, "ab"), [])
        self.assertEqual(next_letters(ANNAS, 2, "anna"), [])
        self.assertEqual(next_letters(("a",), 3, "a"), [])

    def test_the_end_of_a_text_alone_counts(self):
        self.assertEqual(next_letters(ANNAS, 1, "xyza"), [("n", (2, 3))])
        self.assertEqual(next_letters(ANNAS, 2, "xyzan"), [("n", (1, 1))])
        self.assertEqual(next_letters(ANNAS, 3, "xyzan"), [])

    def test_behind_eight_letters(self):
        self.assertEqual(next_letters(("aa",), 1, "aaaaaaaa"), [("a", (1, 2))])
        self.assertEqual(next_letters(ANNAS, 1, "annannan"), [("n", (1, 2)), ("a", (1, 4))])

    def test_like_a_look_at_each_row(self):
        for book in MANY_BOOKS + SMALL_BOOKS[::7] + (WIDE_BOOK,):
            for order in ORDERS:
                for text in sorted(set(some_texts(book[:1], order)) | {"", "a", "b", "ga", "gg", "an"}):
                    row = slow_row(book, order, text[max(0, len(text) - order):])
                    anything = sum(often for letter, often in row)
                    pairs = sorted((-often, letter) for letter, often in row if letter)
                    wanted = [(letter, as_tuple(Fraction(-often, anything))) for often, letter in pairs]
                    self.assertEqual(next_letters(book, order, text), wanted, (book, order, text))
                    told = {letter for letter, often in behind(book, order, text)} - {""}
                    self.assertEqual({letter for letter, part in wanted}, told)

    def test_a_new_list_each_time(self):
        told = next_letters(ANNAS, 1, "an")
        told.pop()
        told[0] = None
        self.assertEqual(next_letters(ANNAS, 1, "an"), [("n", (1, 2)), ("a", (1, 4))])


class Begun(unittest.TestCase):
    def all_three(self, book, order, text, many, part, name):
        self.assertEqual(how_many_begun(book, order, text), many, (book, order, text))
        self.assertEqual(share_begun(book, order, text), part, (book, order, text))
        self.assertEqual(likeliest_begun(book, order, text), name, (book, order, text))

    def test_by_hand(self):
        self.all_three(ANNAS, 2, "", 2, (1, 1), "ann")
        self.all_three(ANNAS, 2, "ann", 2, (1, 1), "ann")
        self.all_three(ANNAS, 2, "anna", 1, (1, 2), "anna")
        self.all_three(("a", "b", "b"), 1, "", 2, (1, 1), "b")
        self.all_three(("a", "b", "b"), 1, "a", 1, (1, 3), "a")
        self.all_three(EVEN_BOOK, 1, "", 25, (1, 1), "axu")
        self.all_three(EVEN_BOOK, 1, "c", 5, (1, 5), "cxu")
        self.all_three(EVEN_BOOK, 1, "cx", 5, (1, 5), "cxu")
        self.all_three(EVEN_BOOK, 1, "cxz", 1, (1, 25), "cxz")

    def test_names_of_more_than_eight_letters_do_not_count(self):
        self.all_three(("aa",), 1, "", 8, (255, 256), "a")
        self.all_three(("aa",), 1, "aaaa", 5, (31, 256), "aaaa")
        self.all_three(("aa",), 1, "aaaaaaaa", 1, (1, 256), "aaaaaaaa")

    def test_like_shares_by_the_alphabet(self):
        self.all_three(("ab", "ac", "ad"), 1, "a", 3, (1, 1), "ab")
        self.all_three(("b", "ab"), 2, "", 2, (1, 1), "ab")
        self.all_three(("zz", "za"), 3, "z", 2, (1, 1), "za")

    def test_a_text_that_begins_none(self):
        for order in ORDERS:
            for text in ("x", "n", "annx", "xanna", "aa", "abcdefgh"):
                self.all_three(ANNAS, order, text, 0, (0, 1), None)
        self.all_three(ANNAS, 2, "annaa", 0, (0, 1), None)

    def test_a_text_that_begins_none_of_eight_letters(self):
        self.all_three(("abcdefgh", "ha"), 1, "abcdefgh", 1, (1, 8), "abcdefgh")
        # Behind these eight letters the book goes on, but no name of eight letters ends there.
        self.all_three(("aab",), 1, "aaaaaaaa", 0, (0, 1), None)
        self.all_three(("aab",), 1, "aaaaaaab", 1, (1, 128), "aaaaaaab")
        self.all_three(("aab",), 1, "aaaaaaa", 1, (1, 128), "aaaaaaab")

    def test_the_text_itself_counts(self):
        self.all_three(("an", "anna"), 3, "an", 2, (1, 1), "an")
        self.all_three(("an", "an", "anna"), 3, "an", 2, (1, 1), "an")
        self.all_three(("an", "anna", "anna"), 3, "an", 2, (1, 1), "anna")

    def test_like_slow_reckoning(self):
        for book in MANY_BOOKS + SMALL_BOOKS[::19]:
            for order in ORDERS:
                for text in some_texts(book, order):
                    names = slow_begun(book, order, text)
                    first = min(names, key=lambda name: (-names[name], name), default=None)
                    part = as_tuple(sum(names.values(), Fraction(0)))
                    self.all_three(book, order, text, len(names), part, first)

    def test_kinds(self):
        self.assertIs(type(how_many_begun(ANNAS, 1, "a")), int)
        self.assertIs(type(share_begun(ANNAS, 1, "a")), tuple)
        self.assertIs(type(likeliest_begun(ANNAS, 1, "a")), str)

    def test_begun_with_the_empty_text_are_all(self):
        for book in MANY_BOOKS + (WIDE_BOOK,):
            for order in ORDERS:
                many = sum(how_many(book, order, length) for length in range(1, 9))
                self.all_three(book, order, "", many, share_up_to(book, order, 8),
                               likeliest(book, order, ALL_WANTED, 1)[0][1])

    def test_those_begun_with_each_letter_more_and_itself(self):
        for book in MANY_BOOKS[::2] + (WIDE_BOOK,):
            for order in ORDERS:
                texts = [text for text in some_texts(book[:1], order) if len(text) < 8]
                for text in texts:
                    itself = text != "" and makes(book, order, text)
                    many = 1 if itself else 0
                    part = share(book, order, text) if itself else (0, 1)
                    for letter in LETTERS:
                        many += how_many_begun(book, order, text + letter)
                        part = added(part, share_begun(book, order, text + letter))
                    self.assertEqual(how_many_begun(book, order, text), many, (book, order, text))
                    self.assertEqual(share_begun(book, order, text), part, (book, order, text))

    def test_eight_letters_are_made_or_not(self):
        for book in MANY_BOOKS:
            for order in ORDERS:
                for text in ("aaaaaaaa", "abababab", "abcdefgh", "zyxwvuts", "mariaria", "annannan"):
                    made = makes(book, order, text)
                    wanted = (1, share(book, order, text), text) if made else (0, (0, 1), None)
                    self.all_three(book, order, text, *wanted)


class Refusals(unittest.TestCase):
    def test_what_is_no_book(self):
        for thing in NO_BOOKS:
            for function in FUNCTIONS:
                self.assertIs(refusal(function, thing, 1, "a"), NoBook, repr(thing))
                self.assertIs(refusal(function, thing, 1, ""), NoBook, repr(thing))

    def test_what_is_no_order(self):
        for thing in NO_ORDERS + (0, 4, True, False, "1", -1, 99):
            for function in FUNCTIONS:
                self.assertIs(refusal(function, ANNAS, thing, "a"), NoOrder, repr(thing))
                self.assertIs(refusal(function, ANNAS, thing, ""), NoOrder, repr(thing))

    def test_what_is_no_text_begun(self):
        for thing in NO_TEXTS:
            for function in FUNCTIONS:
                self.assertIs(refusal(function, ANNAS, 1, thing), NoName, repr(thing))

    def test_the_first_that_is_due(self):
        for thing in STRANGE_THINGS:
            for function in FUNCTIONS:
                self.assertIs(refusal(function, thing, thing, thing), NoBook, repr(thing))
                self.assertIs(refusal(function, thing, 1, thing), NoBook, repr(thing))
                self.assertIs(refusal(function, thing, thing, ""), NoBook, repr(thing))
                self.assertIs(refusal(function, ANNAS, thing, thing), NoOrder, repr(thing))

    def test_what_is_right_is_not_refused(self):
        for book in MANY_BOOKS:
            for order in ORDERS:
                for text in ("", "a", "z", "abcdefgh"):
                    for function in FUNCTIONS:
                        self.assertIsNone(refusal(function, book, order, text))


if __name__ == "__main__":
    unittest.main()
