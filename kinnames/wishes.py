"""Wishes: which names are wanted, by length, beginning, end, barred and told ones."""

from kinnames.books import MOST_LETTERS, is_name, is_rising, is_whole, need_book, need_name
from kinnames.errors import NoWish
from kinnames.ways import ANY

LEAST = 0
MOST = 1
HEAD = 2
TAIL = 3
BARRED = 4
TOLD = 5
MANY_PARTS = 6
MOST_EDGE = 3
MOST_BARRED = 6


def is_edge(thing):
    return thing == "" or (is_name(thing) and len(thing) <= MOST_EDGE)


def is_barred(thing):
    if not isinstance(thing, tuple) or len(thing) > MOST_BARRED:
        return False
    # Only texts can be held against one another, so that they are asked for first.
    return all([is_name(name) for name in thing]) and is_rising(thing)


def is_wish(thing):
    if not isinstance(thing, tuple) or len(thing) != MANY_PARTS:
        return False
    if not is_whole(thing[LEAST], 1, MOST_LETTERS) or not is_whole(thing[MOST], thing[LEAST], MOST_LETTERS):
        return False
    if not is_edge(thing[HEAD]) or not is_edge(thing[TAIL]):
        return False
    return is_barred(thing[BARRED]) and isinstance(thing[TOLD], bool)


def need_wish(thing):
    if not is_wish(thing):
        raise NoWish("a wish is a tuple of least, most, head, tail, barred and told")


def has_form(wish, name):
    if not wish[LEAST] <= len(name) <= wish[MOST]:
        return False
    return name.startswith(wish[HEAD]) and name.endswith(wish[TAIL])


def left_out(book, wish):
    if wish[TOLD]:
        return list(wish[BARRED])
    return sorted(set(wish[BARRED] + book))


def fits(book, wish, name):
    need_book(book)
    need_wish(wish)
    need_name(name)
    return has_form(wish, name) and name not in left_out(book, wish)


def go_together(one, other):
    return one == other or ANY in (one, other)


# Head and tail may lie over one another in a short name; where they do not go together there, no name has both.
def patterns_of_length(head, tail, length):
    if length < max(len(head), len(tail)):
        return []
    by_head = list(head) + [ANY] * (length - len(head))
    by_tail = [ANY] * (length - len(tail)) + list(tail)
    if not all([go_together(one, other) for one, other in zip(by_head, by_tail)]):
        return []
    return [[other if one == ANY else one for one, other in zip(by_head, by_tail)]]


def patterns(wish):
    found = []
    for length in range(wish[LEAST], wish[MOST] + 1):
        found.extend(patterns_of_length(wish[HEAD], wish[TAIL], length))
    return found
