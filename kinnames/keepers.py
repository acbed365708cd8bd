"""Keepers: they hear names, and give out no name twice."""

from kinnames.books import counted_rows, need_book, need_name, need_order
from kinnames.drawing import first_drawn, need_numbers
from kinnames.errors import Nothing
from kinnames.likely import heaviest_name
from kinnames.wishes import left_out, need_wish


class Keeper:
    def __init__(self, order):
        need_order(order)
        self.order = order
        self.told = ()
        self.gone = []

    def book(self):
        return self.told

    def given(self):
        return list(self.gone)

    def hear(self, name):
        need_name(name)
        longer = self.told + (name,)
        need_book(longer)
        self.told = longer
        return len(longer)

    def forget(self, name):
        need_name(name)
        if name not in self.told:
            raise Nothing("there is no such name in the book")
        last = max([place for place, told in enumerate(self.told) if told == name])
        self.told = self.told[:last] + self.told[last + 1:]

    def give(self, wish, numbers):
        need_book(self.told)
        need_wish(wish)
        need_numbers(numbers)
        barred = left_out(self.told, wish) + self.gone
        name = first_drawn(self.told, self.order, wish, barred, numbers)[0]
        self.gone.append(name)
        return name

    def give_likeliest(self, wish):
        need_book(self.told)
        need_wish(wish)
        barred = left_out(self.told, wish) + self.gone
        name = heaviest_name(counted_rows(self.told, self.order), self.order, wish, barred)
        if name is not None:
            self.gone.append(name)
        return name
