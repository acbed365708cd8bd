"""What the shares of all names that are as wanted come to."""

from kinnames.books import counted_rows, need_book, need_order
from kinnames.shares import NOUGHT, is_less, less, lowest, share_by_rows
from kinnames.ways import parts_by_rows, sum_along, whole_weight
from kinnames.wishes import has_form, left_out, need_wish, patterns


def share_of_form(rows, order, wish):
    parts = parts_by_rows(rows)
    whole = whole_weight(rows)
    return lowest(sum([sum_along(parts, order, whole, pattern) for pattern in patterns(wish)]), whole)


def share_fitting(book, order, wish):
    need_book(book)
    need_order(order)
    need_wish(wish)
    rows = counted_rows(book, order)
    rest = share_of_form(rows, order, wish)
    for name in left_out(book, wish):
        if has_form(wish, name):
            rest = less(rest, share_by_rows(rows, order, name))
    return rest


def can_fit(book, order, wish):
    return is_less(NOUGHT, share_fitting(book, order, wish))
