"""Books and tables as texts, and books read back."""

from kinnames.books import is_book, need_book, table
from kinnames.errors import NoText


def or_sign(text, sign):
    return sign if text == "" else text


def book_text(book):
    need_book(book)
    return "".join([name + "\n" for name in book])


def line_of_row(end, row):
    counts = "".join([" " + or_sign(letter, ".") + str(often) for letter, often in row])
    return or_sign(end, "-") + ":" + counts + "\n"


def table_text(book, order):
    return "".join([line_of_row(end, row) for end, row in table(book, order)])


def read_book(text):
    if not isinstance(text, str) or not text.endswith("\n"):
        raise NoText("a book is written as lines, each ended by a line feed")
    book = tuple(text[:-1].split("\n"))
    if not is_book(book):
        raise NoText("a book is written as 1 to 8 lines, each of them a name")
    return book
