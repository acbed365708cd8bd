"""Names begun with a text: what may come next, how many there are, their share, and the likeliest one."""

from kinnames.books import MOST_LETTERS, behind, counted_rows, need_book, need_name_or_empty, need_order
from kinnames.holding import share_of_form
from kinnames.likely import heaviest_name
from kinnames.shares import part_in
from kinnames.ways import even_parts, sum_along
from kinnames.wishes import patterns


def next_letters(book, order, text):
    row = dict(behind(book, order, text))
    letters = sorted([letter for letter in row if letter != ""], key=lambda letter: (-row[letter], letter))
    return [(letter, part_in(row, letter)) for letter in letters]


# Like a wish, but for its head, which may be longer: whoever goes by the form of a wish does not ask for that.
def form_begun(text):
    return (1, MOST_LETTERS, text, "", (), True)


def how_many_begun(book, order, text):
    need_book(book)
    need_order(order)
    need_name_or_empty(text)
    parts = even_parts(counted_rows(book, order))
    return sum([sum_along(parts, order, 1, pattern) for pattern in patterns(form_begun(text))])


def share_begun(book, order, text):
    need_book(book)
    need_order(order)
    need_name_or_empty(text)
    return share_of_form(counted_rows(book, order), order, form_begun(text))


def likeliest_begun(book, order, text):
    need_book(book)
    need_order(order)
    need_name_or_empty(text)
    return heaviest_name(counted_rows(book, order), order, form_begun(text), [])
