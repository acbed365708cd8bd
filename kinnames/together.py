"""Books held together: mixed, against one another, and which of them is best for several names."""

from kinnames.books import MOST_LETTERS, counted_rows, end_of, is_name, need_book, need_books, need_order
from kinnames.errors import NoName
from kinnames.shares import WHOLE, place_of_greatest, share_by_rows, times


def mixed(one, other):
    need_book(one)
    need_book(other)
    both = one + other
    need_book(both)
    return both


def shared_ends(one, other, order):
    need_book(one)
    need_book(other)
    need_order(order)
    rows = counted_rows(other, order)
    return [end for end in sorted(counted_rows(one, order)) if end in rows]


# A state is a text's end, and whether the first rows have all the steps of the text. Texts of one length and one state
# go on alike, so that the first of them in the alphabet is enough.
def next_firsts(first_rows, rows, order, firsts):
    found = {}
    for state, text in firsts.items():
        for letter in rows[state[0]]:
            if letter != "":
                held = state[1] and letter in first_rows[state[0]]
                reached = (end_of(text + letter, order), held)
                found[reached] = min(found.get(reached, text + letter), text + letter)
    return found


def ends_by_rows_alone(first_rows, rows, state):
    return "" in rows[state[0]] and not (state[1] and "" in first_rows[state[0]])


def lacking(one, other, order):
    need_book(one)
    need_book(other)
    need_order(order)
    first_rows = counted_rows(one, order)
    rows = counted_rows(other, order)
    firsts = {("", True): ""}
    for length in range(1, MOST_LETTERS + 1):
        firsts = next_firsts(first_rows, rows, order, firsts)
        names = [name for state, name in firsts.items() if ends_by_rows_alone(first_rows, rows, state)]
        if names != []:
            return min(names)
    return None


def makes_all(one, other, order):
    return lacking(one, other, order) is None


def need_names(thing):
    if not isinstance(thing, list) or not all([is_name(name) for name in thing]):
        raise NoName("a list of names is asked for")


def share_of_all(book, order, names):
    rows = counted_rows(book, order)
    product = WHOLE
    for name in names:
        product = times(product, share_by_rows(rows, order, name))
    return product


def best_for(books, order, names):
    need_books(books)
    need_order(order)
    need_names(names)
    return place_of_greatest([share_of_all(book, order, names) for book in books])
