"""Which books make a name, by which orders, and which names of a book it takes."""

from kinnames.books import (
    MOST_ORDER, ends_and_letters, is_rising, is_whole, need_book, need_books, need_name, need_order,
)
from kinnames.shares import makes, place_of_greatest, share


def makers(books, order, name):
    need_books(books)
    need_order(order)
    need_name(name)
    return [place for place, book in enumerate(books) if makes(book, order, name)]


def best_maker(books, order, name):
    need_books(books)
    need_order(order)
    need_name(name)
    return place_of_greatest([share(book, order, name) for book in books])


def greatest_order(book, name):
    need_book(book)
    need_name(name)
    for order in range(MOST_ORDER, 0, -1):
        if makes(book, order, name):
            return order
    return None


def places_with(book, order, step):
    return [place for place, told in enumerate(book) if step in ends_and_letters(told, order)]


# For each step of the name the places that have it. Names alone make the name where none of its steps is lacking.
def places_by_step(book, order, name):
    return [places_with(book, order, step) for step in ends_and_letters(name, order)]


def any_has(having, places):
    return any([place in having for place in places])


def alone_make(by_step, places):
    return all([any_has(having, places) for having in by_step])


# Rising lists, put before each of their greater places, stay in their order.
def longer_lists(lists, many):
    longer = []
    for places in lists:
        least = places[-1] + 1 if places != [] else 0
        longer.extend([places + [place] for place in range(least, many)])
    return longer


def needed(book, order, name):
    need_book(book)
    need_order(order)
    need_name(name)
    by_step = places_by_step(book, order, name)
    lists = [[]]
    while lists != []:
        lists = longer_lists(lists, len(book))
        for places in lists:
            if alone_make(by_step, places):
                return places
    return None


def is_list_of_places(thing, many):
    if not isinstance(thing, list):
        return False
    return all([is_whole(place, 0, many - 1) for place in thing]) and is_rising(thing)


def shows(book, order, name, thing):
    need_book(book)
    need_order(order)
    need_name(name)
    if not is_list_of_places(thing, len(book)):
        return False
    by_step = places_by_step(book, order, name)
    # The empty list is left out here, too: no places make no name.
    if not alone_make(by_step, thing):
        return False
    fewer = [thing[:place] + thing[place + 1:] for place in range(len(thing))]
    return not any([alone_make(by_step, places) for places in fewer])
