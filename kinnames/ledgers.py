"""Ledgers: books under titles."""

from kinnames.books import need_book, need_name, need_order
from kinnames.errors import Nothing
from kinnames.pens import Stepper
from kinnames.shares import makes, place_of_greatest, share


class Ledger(Stepper):
    def __init__(self, order):
        need_order(order)
        Stepper.__init__(self, {})
        self.order = order

    def need_title(self, title):
        if title not in self.now:
            raise Nothing("there is no book under this title")

    def with_book(self, title, book):
        after = dict(self.now)
        after[title] = book
        return after

    def keep(self, title, book):
        need_name(title)
        need_book(book)
        stood = title in self.now
        self.step_to(self.with_book(title, book), "keep")
        return stood

    def drop(self, title):
        need_name(title)
        self.need_title(title)
        after = dict(self.now)
        dropped = after.pop(title)
        self.step_to(after, "drop")
        return dropped

    def hear(self, title, name):
        need_name(title)
        need_name(name)
        self.need_title(title)
        longer = self.now[title] + (name,)
        need_book(longer)
        self.step_to(self.with_book(title, longer), "hear")
        return len(longer)

    def titles(self):
        return sorted(self.now)

    def book(self, title):
        need_name(title)
        self.need_title(title)
        return self.now[title]

    def tellers(self, name):
        need_name(name)
        return [title for title in self.titles() if name in self.now[title]]

    def makers_of(self, name):
        need_name(name)
        return [title for title in self.titles() if makes(self.now[title], self.order, name)]

    def best_of(self, name):
        need_name(name)
        titles = self.titles()
        place = place_of_greatest([share(self.now[title], self.order, name) for title in titles])
        return None if place is None else titles[place]

    def twin(self):
        other = Ledger(self.order)
        other.become(self)
        return other
