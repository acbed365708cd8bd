"""Fractions in lowest terms, and the exact shares of names."""

from kinnames.books import counted_rows, ends_and_letters, need_book, need_name, need_order

NOUGHT = (0, 1)
WHOLE = (1, 1)


def greatest_divisor(one, other):
    while other != 0:
        rest = one % other
        one = other
        other = rest
    return one


def lowest(up, down):
    divisor = greatest_divisor(up, down)
    return (up // divisor, down // divisor)


def added(one, other):
    return lowest(one[0] * other[1] + other[0] * one[1], one[1] * other[1])


def times(one, other):
    return lowest(one[0] * other[0], one[1] * other[1])


def less(one, other):
    return lowest(one[0] * other[1] - other[0] * one[1], one[1] * other[1])


def is_less(one, other):
    return one[0] * other[1] < other[0] * one[1]


# The first of the greatest ones; none, where all are nought.
def place_of_greatest(fractions):
    found = None
    greatest = NOUGHT
    for place, fraction in enumerate(fractions):
        if is_less(greatest, fraction):
            found = place
            greatest = fraction
    return found


def part_in(row, letter):
    if letter not in row:
        return NOUGHT
    return lowest(row[letter], sum(row.values()))


# Those that go by rows ask nothing of what they are handed, and count no book twice.
def steps_by_rows(rows, order, name):
    return [(end, letter, part_in(rows.get(end, {}), letter)) for end, letter in ends_and_letters(name, order)]


def share_by_rows(rows, order, name):
    product = WHOLE
    for step in steps_by_rows(rows, order, name):
        product = times(product, step[2])
    return product


def steps(book, order, name):
    need_book(book)
    need_order(order)
    need_name(name)
    return steps_by_rows(counted_rows(book, order), order, name)


def share(book, order, name):
    need_book(book)
    need_order(order)
    need_name(name)
    return share_by_rows(counted_rows(book, order), order, name)


def makes(book, order, name):
    return is_less(NOUGHT, share(book, order, name))


def likelier(book, order, one, other):
    need_book(book)
    need_order(order)
    need_name(one)
    need_name(other)
    rows = counted_rows(book, order)
    share_of_one = share_by_rows(rows, order, one)
    share_of_other = share_by_rows(rows, order, other)
    if is_less(share_of_one, share_of_other):
        return other
    if is_less(share_of_other, share_of_one):
        return one
    return min(one, other)
