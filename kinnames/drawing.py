"""Names drawn by plain numbers, and the numbers that draw a name."""

from kinnames.books import counted_rows, end_of, ends_and_letters, is_whole, need_book, need_name, need_order
from kinnames.errors import NoNumber, NotMade, TooShort
from kinnames.wishes import has_form, left_out, need_wish

MOST_NUMBERS = 99
GREATEST_NUMBER = 9999


def are_numbers(thing):
    if not isinstance(thing, (list, tuple)) or len(thing) > MOST_NUMBERS:
        return False
    return all([is_whole(number, 0, GREATEST_NUMBER) for number in thing])


def need_numbers(thing):
    if not are_numbers(thing):
        raise NoNumber("numbers to draw by are a list or a tuple of at most 99 whole numbers from 0 to 9999")


# Each letter lies in the pot as often as it is there, so that a number picks it by its place.
def pot_of(row):
    pot = []
    for letter in sorted(row):
        pot.extend([letter] * row[letter])
    return pot


def pots_by_end(book, order):
    return dict([(end, pot_of(row)) for end, row in counted_rows(book, order).items()])


def drawn_from(pots, order, numbers, start):
    text = ""
    for place in range(start, len(numbers)):
        pot = pots[end_of(text, order)]
        letter = pot[numbers[place] % len(pot)]
        if letter == "":
            return (text, place + 1)
        text = text + letter
    raise TooShort("the numbers do not come to an end")


def drawn(book, order, numbers):
    need_book(book)
    need_order(order)
    need_numbers(numbers)
    return drawn_from(pots_by_end(book, order), order, numbers, 0)


# Asks nothing of what it is handed; barred may be longer than a wish allows.
def first_drawn(book, order, wish, barred, numbers):
    pots = pots_by_end(book, order)
    pair = drawn_from(pots, order, numbers, 0)
    while not has_form(wish, pair[0]) or pair[0] in barred:
        pair = drawn_from(pots, order, numbers, pair[1])
    return pair


def drawn_fitting(book, order, wish, numbers):
    need_book(book)
    need_order(order)
    need_wish(wish)
    need_numbers(numbers)
    return first_drawn(book, order, wish, left_out(book, wish), numbers)


def numbers_for(book, order, name):
    need_book(book)
    need_order(order)
    need_name(name)
    pots = pots_by_end(book, order)
    found = []
    for end, letter in ends_and_letters(name, order):
        if letter not in pots[end]:
            raise NotMade("no numbers draw a name that is not made")
        found.append(pots[end].index(letter))
    return found
