"""The likeliest names that are as wanted, in their order."""

from kinnames.books import counted_rows, need_book, need_order, need_whole
from kinnames.shares import lowest
from kinnames.ways import heaviest, heaviest_along, parts_by_rows, whole_weight
from kinnames.wishes import left_out, need_wish, patterns

MOST_LIKELIEST = 20


# Names left out may stand before all others, so that many more are asked of each pattern.
def heaviest_fitting(rows, order, wish, many, barred):
    parts = parts_by_rows(rows)
    whole = whole_weight(rows)
    found = []
    for pattern in patterns(wish):
        pairs = heaviest_along(parts, order, whole, pattern, many + len(barred))
        found.extend([pair for pair in pairs if pair[1] not in barred])
    return [(lowest(weight, whole), name) for weight, name in heaviest(found, many)]


def heaviest_name(rows, order, wish, barred):
    pairs = heaviest_fitting(rows, order, wish, 1, barred)
    return None if pairs == [] else pairs[0][1]


def likeliest(book, order, wish, many):
    need_book(book)
    need_order(order)
    need_wish(wish)
    need_whole(many, 1, MOST_LIKELIEST)
    return heaviest_fitting(counted_rows(book, order), order, wish, many, left_out(book, wish))


def place_of(book, order, wish, name):
    for place, pair in enumerate(likeliest(book, order, wish, MOST_LIKELIEST), start=1):
        if pair[1] == name:
            return place
    return None
