"""How many names of which length a book makes, which ones, and what their shares come to."""

from kinnames.books import MOST_LETTERS, counted_rows, end_of, need_book, need_order, need_whole
from kinnames.shares import lowest
from kinnames.ways import ANY, even_parts, parts_by_rows, sum_along, whole_weight


def need_length(thing):
    need_whole(thing, 1, MOST_LETTERS)


def how_many_by_rows(rows, order, length):
    return sum_along(even_parts(rows), order, 1, [ANY] * length)


def how_many(book, order, length):
    need_book(book)
    need_order(order)
    need_length(length)
    return how_many_by_rows(counted_rows(book, order), order, length)


def share_from_to(book, order, least, most):
    rows = counted_rows(book, order)
    parts = parts_by_rows(rows)
    whole = whole_weight(rows)
    weights = [sum_along(parts, order, whole, [ANY] * length) for length in range(least, most + 1)]
    return lowest(sum(weights), whole)


def share_of_length(book, order, length):
    need_book(book)
    need_order(order)
    need_length(length)
    return share_from_to(book, order, length, length)


def share_up_to(book, order, length):
    need_book(book)
    need_order(order)
    need_length(length)
    return share_from_to(book, order, 1, length)


def letters_towards(row, end, order, targets):
    return [letter for letter in sorted(row) if letter != "" and end_of(end + letter, order) in targets]


# For each number of letters below the length: the ends from which so many letters more can end a name.
def closing_ends(rows, order, length):
    closing = [[end for end in rows if "" in rows[end]]]
    while len(closing) < length:
        targets = closing[-1]
        closing.append([end for end in rows if letters_towards(rows[end], end, order, targets) != []])
    return closing


# Rising texts of one length, each put before its letters in the alphabet, stay rising.
def lengthened(rows, order, texts, targets):
    leading = {}
    for end, row in rows.items():
        leading[end] = letters_towards(row, end, order, targets)
    longer = []
    for text in texts:
        longer.extend([text + letter for letter in leading[end_of(text, order)]])
    return longer


def all_made(book, order, length):
    need_book(book)
    need_order(order)
    need_length(length)
    rows = counted_rows(book, order)
    closing = closing_ends(rows, order, length)
    texts = [""]
    for left in range(length - 1, -1, -1):
        texts = lengthened(rows, order, texts, closing[left])
    return texts


def lengths(book, order):
    need_book(book)
    need_order(order)
    rows = counted_rows(book, order)
    return [length for length in range(1, MOST_LETTERS + 1) if how_many_by_rows(rows, order, length) > 0]
