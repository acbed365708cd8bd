"""Texts: 0.2 (g), 0.3, 8.1 and 8.2."""

import itertools
import unittest

from kinnames.books import table
from kinnames.errors import NoBook, NoOrder, NoText
from kinnames.texts import book_text, read_book, table_text
from tests.helpers import (
    BOOKS, MANY_BOOKS, NO_BOOKS, NO_ORDERS, ORDERS, SMALL_BOOKS, SMALL_NAMES, STRANGE_THINGS, WIDE_BOOK, refusal,
    slow_table,
)

ANNAS = ("anna", "ann")
SIGNS = [chr(code) for code in range(32, 127)] + ["\n"]


def one_sign_off(text, signs):
    """All texts that lack a sign of the text, have it twice, have another one in its stead or one more."""
    for place in range(len(text) + 1):
        for sign in signs:
            yield text[:place] + sign + text[place:]
    for place in range(len(text)):
        yield text[:place] + text[place + 1:]
        yield text[:place] + text[place] + text[place:]
        for sign in signs:
            yield text[:place] + sign + text[place + 1:]


class BookText(unittest.TestCase):
    def test_line_by_line(self):
        self.assertEqual(book_text(ANNAS), "anna\nann\n")
        self.assertEqual(book_text(("a",)), "a\n")
        self.assertEqual(book_text(("b", "a", "b")), "b\na\nb\n")
        self.assertEqual(book_text(("abcdefgh",) * 8), "abcdefgh\n" * 8)

    def test_like_one_line_for_each_name(self):
        for book in BOOKS:
            text = book_text(book)
            self.assertIs(type(text), str)
            self.assertEqual(text.split("\n"), list(book) + [""])


class TableText(unittest.TestCase):
    def test_line_by_line(self):
        self.assertEqual(table_text(("ab", "a", "b"), 1), "-: a2 b1\na: .1 b1\nb: .2\n")
        self.assertEqual(table_text(ANNAS, 1), "-: a2\na: .1 n2\nn: .1 a1 n2\n")
        self.assertEqual(table_text(ANNAS, 2), "-: a2\na: n2\nan: n2\nna: .1\nnn: .1 a1\n")
        self.assertEqual(table_text(ANNAS, 3), "-: a2\na: n2\nan: n2\nann: .1 a1\nnna: .1\n")
        self.assertEqual(table_text(("a",), 3), "-: a1\na: .1\n")

    def test_more_than_nine(self):
        self.assertEqual(table_text(("aaaaaaaa",) * 8, 1), "-: a8\na: .8 a56\n")

    def test_like_each_row_of_the_table(self):
        for book in MANY_BOOKS + SMALL_BOOKS[::5] + (WIDE_BOOK,):
            for order in ORDERS:
                lines = []
                for end, row in slow_table(book, order):
                    counts = " ".join((letter or ".") + str(often) for letter, often in row)
                    lines.append((end or "-") + ": " + counts)
                text = table_text(book, order)
                self.assertEqual(text, "\n".join(lines) + "\n")
                self.assertEqual(text.count("\n"), len(table(book, order)))

    def test_books_with_other_tables_have_other_texts(self):
        for order in ORDERS:
            for one, other in itertools.combinations(SMALL_BOOKS[::9], 2):
                same = table(one, order) == table(other, order)
                self.assertIs(table_text(one, order) == table_text(other, order), same)


class ReadBook(unittest.TestCase):
    def test_what_is_written_is_read_back(self):
        for book in BOOKS + MANY_BOOKS + (WIDE_BOOK,):
            told = read_book(book_text(book))
            self.assertEqual(told, book)
            self.assertIs(type(told), tuple)

    def test_by_hand(self):
        self.assertEqual(read_book("a\n"), ("a",))
        self.assertEqual(read_book("anna\nann\nanna\n"), ("anna", "ann", "anna"))
        self.assertEqual(read_book("abcdefgh\n" * 8), ("abcdefgh",) * 8)

    def test_other_texts(self):
        texts = (
            "", "\n", "\n\n", "a", "anna", "anna\nann", "\nanna\n", "anna\n\n", "anna\n\nann\n", "\n\nanna\n",
            " \n", " anna\n", "anna \n", "an na\n", "anna\n ann\n", "Anna\n", "annA\n", "ANNA\n", "anna\nAnn\n",
            "abcdefghi\n", "anna\nabcdefghi\n", "a\n" * 9, "a\n" * 8 + "a", "a\n" * 8 + "\n", "a1\n", "1\n", "-\n",
            ".\n", "a,b\n", "anna\\n", "anna ann\n", "-: a2 b1\n", "anna\t\n", "anna\r\n", "\u00e4nna\n",
            "\u0430nna\n", "anna\u2028ann\n", "anna\x0bann\n", "anna\x0cann\n", "anna\x85ann\n", "anna\x00\n",
            "`\n", "{\n", "~\n", "anna\nann\n ", "anna\nann\n\n", "a" * 500 + "\n", "a\n" * 500,
        )
        for text in texts:
            self.assertIs(refusal(read_book, text), NoText, repr(text))

    def test_no_other_text_is_read(self):
        for book in (("a",), ("ab", "b"), ANNAS, ("abcdefgh", "a"), ("abcdefg", "zz"), ("a",) * 8, ("a",) * 7):
            for text in one_sign_off(book_text(book), SIGNS):
                told = refusal(read_book, text)
                if told is None:
                    self.assertEqual(book_text(read_book(text)), text)
                else:
                    self.assertIs(told, NoText, repr(text))

    def test_read_or_refused_by_short_texts(self):
        written = {book_text(book): book for book in SMALL_BOOKS if len("".join(book)) + len(book) <= 5}
        for length in range(6):
            for letters in itertools.product("ab\n ", repeat=length):
                text = "".join(letters)
                if text in written:
                    self.assertEqual(read_book(text), written[text])
                elif refusal(read_book, text) is None:
                    self.assertEqual(book_text(read_book(text)), text)
                    self.assertFalse(set(read_book(text)) <= set(SMALL_NAMES) and len(read_book(text)) <= 2, repr(text))


class Refusals(unittest.TestCase):
    def test_what_is_no_book(self):
        for thing in NO_BOOKS:
            self.assertIs(refusal(book_text, thing), NoBook, repr(thing))
            self.assertIs(refusal(table_text, thing, 1), NoBook, repr(thing))

    def test_what_is_no_order(self):
        for thing in NO_ORDERS + (0, 4, True, False, "1", -1, 99):
            self.assertIs(refusal(table_text, ANNAS, thing), NoOrder, repr(thing))

    def test_what_is_no_text(self):
        for thing in STRANGE_THINGS + (ANNAS, list(ANNAS), ["anna\n"], ("anna\n",), 1, ["a", "\n"], ("a", "\n")):
            if thing != "anna\n":
                self.assertIs(refusal(read_book, thing), NoText, repr(thing))

    def test_the_first_that_is_due(self):
        for thing in STRANGE_THINGS:
            self.assertIs(refusal(table_text, thing, thing), NoBook, repr(thing))

    def test_what_is_right_is_not_refused(self):
        for book in MANY_BOOKS:
            self.assertIsNone(refusal(book_text, book))
            self.assertIsNone(refusal(read_book, book_text(book)))
            for order in ORDERS:
                self.assertIsNone(refusal(table_text, book, order))


if __name__ == "__main__":
    unittest.main()
