"""Pens, which write names letter by letter, and what goes back and forth step by step."""

from kinnames.begun import form_begun
from kinnames.books import MOST_LETTERS, counted_rows, end_of, need_book, need_order
from kinnames.errors import NoName, Nothing
from kinnames.lengths import closing_ends, letters_towards
from kinnames.likely import heaviest_name
from kinnames.shares import WHOLE, steps_by_rows, times


# What is now is never changed itself, but put aside with the word of the step that leads away from it, so that it may
# be a text or a dict, and twins may have it in common.
class Stepper:
    def __init__(self, now):
        self.now = now
        self.done = []
        self.undone = []

    def step_to(self, after, word):
        self.done.append((self.now, word))
        self.undone = []
        self.now = after

    def back(self):
        if self.done == []:
            raise Nothing("no step can be taken back")
        step = self.done.pop()
        self.undone.append((self.now, step[1]))
        self.now = step[0]
        return step[1]

    def forth(self):
        if self.undone == []:
            raise Nothing("no step can be done again")
        step = self.undone.pop()
        self.done.append((self.now, step[1]))
        self.now = step[0]
        return step[1]

    def many(self):
        return (len(self.done), len(self.undone))

    def become(self, other):
        self.now = other.now
        self.done = list(other.done)
        self.undone = list(other.undone)


class Pen(Stepper):
    def __init__(self, book, order):
        need_book(book)
        need_order(order)
        Stepper.__init__(self, "")
        self.told = book
        self.order = order
        self.rows = counted_rows(book, order)
        self.closing = closing_ends(self.rows, order, MOST_LETTERS)

    def text(self):
        return self.now

    def end(self):
        return end_of(self.now, self.order)

    # A letter fills one of the places that are left, so that closing, counted from 0, is gone through up to one less.
    def letters(self):
        targets = []
        for ends in self.closing[:MOST_LETTERS - len(self.now)]:
            targets.extend(ends)
        return letters_towards(self.rows[self.end()], self.end(), self.order, targets)

    def may_end(self):
        return "" in self.rows[self.end()]

    def part(self):
        product = WHOLE
        for step in steps_by_rows(self.rows, self.order, self.now)[:-1]:
            product = times(product, step[2])
        return product

    def add(self, letter):
        if letter not in self.letters():
            raise NoName("no name goes on with this letter")
        self.step_to(self.now + letter, "add")

    def rub(self):
        if self.now == "":
            raise Nothing("there is no letter to rub out")
        letter = self.now[-1]
        self.step_to(self.now[:-1], "rub")
        return letter

    # A pen writes only what begins a name, so there is always one.
    def finish(self):
        name = heaviest_name(self.rows, self.order, form_begun(self.now), [])
        self.step_to(name, "finish")
        return name

    def twin(self):
        other = Pen(self.told, self.order)
        other.become(self)
        return other
