"""Names, books and orders, and what stands behind which end in a book."""

from kinnames.errors import NoBook, NoName, NoNumber, NoOrder

LETTERS = "abcdefghijklmnopqrstuvwxyz"
MOST_LETTERS = 8
MOST_NAMES = 8
MOST_ORDER = 3


def is_name(thing):
    if not isinstance(thing, str) or not 1 <= len(thing) <= MOST_LETTERS:
        return False
    return all([letter in LETTERS for letter in thing])


def is_book(thing):
    if not isinstance(thing, tuple) or not 1 <= len(thing) <= MOST_NAMES:
        return False
    return all([is_name(name) for name in thing])


def is_whole(thing, least, most):
    # Python counts True as the int 1, but a truth is no whole number here.
    if not isinstance(thing, int) or isinstance(thing, bool):
        return False
    return least <= thing <= most


def is_order(thing):
    return is_whole(thing, 1, MOST_ORDER)


def is_rising(things):
    return all([one < other for one, other in zip(things, things[1:])])


def need_book(thing):
    if not is_book(thing):
        raise NoBook("a book is a tuple of 1 to 8 names")


def need_books(thing):
    if not isinstance(thing, list):
        raise NoBook("a list of books is asked for")
    for book in thing:
        need_book(book)


def need_order(thing):
    if not is_order(thing):
        raise NoOrder("an order is a whole number from 1 to 3")


def need_whole(thing, least, most):
    if not is_whole(thing, least, most):
        raise NoNumber(f"a whole number from {least} to {most} is asked for")


def need_name(thing):
    if not is_name(thing):
        raise NoName("a name is a text of 1 to 8 letters from a to z")


def need_name_or_empty(thing):
    if thing != "":
        need_name(thing)


def end_of(text, order):
    return text[-order:]


def ends_and_letters(name, order):
    # The slice is the empty text behind the whole name, which is what stands there.
    return [(end_of(name[:place], order), name[place:place + 1]) for place in range(len(name) + 1)]


# Asks nothing of book and order, so that whoever has asked already need not ask again.
def counted_rows(book, order):
    rows = {}
    for name in book:
        for end, letter in ends_and_letters(name, order):
            row = rows.setdefault(end, {})
            row[letter] = row.get(letter, 0) + 1
    return rows


def table(book, order):
    need_book(book)
    need_order(order)
    rows = counted_rows(book, order)
    return [(end, tuple(sorted(rows[end].items()))) for end in sorted(rows)]


def behind(book, order, text):
    need_book(book)
    need_order(order)
    need_name_or_empty(text)
    row = counted_rows(book, order).get(end_of(text, order), {})
    return sorted(row.items())
