"""What several test files need: sample books, things of every kind, and slow second ways to the same answers."""

import copy
import functools
import itertools
from fractions import Fraction

ORDERS = (1, 2, 3)

SMALL_NAMES = tuple(
    "".join(letters) for length in (1, 2, 3) for letters in itertools.product("ab", repeat=length)
)

SMALL_BOOKS = tuple(
    book for many in (1, 2) for book in itertools.product(SMALL_NAMES, repeat=many)
)

LARGER_BOOKS = (
    ("anna", "ann"),
    ("anna", "hanna", "johanna", "anton", "anna"),
    ("mara", "mira", "maria", "miriam", "marian", "amir"),
    ("abcdefgh",) * 8,
    ("abababab", "babababa", "aaaaaaaa", "bbbbbbbb", "a", "b", "z", "zz"),
    ("zyxwvuts", "abcabcab", "mnmnmnmn", "qqqqqqqq", "ab", "abc", "abcd", "abcde"),
)

BOOKS = SMALL_BOOKS + LARGER_BOOKS

# Each pair of its seven letters stands in it: by order 1 it makes some five million names.
WIDE_BOOK = ("aabbacbc", "ccadbdcd", "ddaebece", "edeeafbf", "fcfdfeff", "fagbgcgd", "dgegfgga", "gggggggg")

# Five heads, one middle, five tails: by order 1 it makes 25 names of like shares.
EVEN_BOOK = ("axu", "bxv", "cxw", "dxy", "exz")

# Books whose ways go round, by some order at least, and such whose ways do not by any.
ROUND_BOOKS = (
    ("aa",), ("aaaaaaaa",), ("abab",), ("aab", "b"), ("abba", "baab"), ("bbbb", "abbb", "a"), ("abaab", "ba", "ba"),
) + LARGER_BOOKS[:3] + LARGER_BOOKS[4:]
STRAIGHT_BOOKS = (
    ("a",), ("b", "a"), ("ab", "a", "ab"), ("abcdefgh",), ("abcdefgh", "h"), ("abd", "acd", "bc"), EVEN_BOOK,
    ("kim", "kit", "tam", "lut"), ("h", "g", "f", "e", "d", "c", "b", "a"), ("ax", "bx", "bx", "ay"),
)
MANY_BOOKS = ROUND_BOOKS + STRAIGHT_BOOKS


def ten_deep(thing, kind):
    for level in range(10):
        thing = kind([thing])
    return thing


# Nothing in here is a name, a book, an order or the empty text.
STRANGE_THINGS = (
    0, 4, -1, 5, 10 ** 30, -(10 ** 30), True, False, None,
    "A", "Anna", "anNa", "anna ", " anna", "an na", "anna\n", "\n", "-", ".", "1", "a1", "\u00e4nna", "\u00df",
    "\u0430nna", "\uff41", "`", "{", "@", "[", "a\x00", "abcdefghi", "a" * 99,
    [], ["anna"], ["anna", "ann"], [["anna"]], [0], [None], [True], [1, 2],
    (), ("",), ("anna", ""), ("", "anna"), ("anna", "Ann"), ("anna", 1), ("anna", None), ("anna", True), (True,),
    (("anna",),), ("anna", ("ann",)), (["anna"],), ("abcdefghi",), ("a",) * 9, ("anna", "ann1"), (1,), (0, 1),
    ten_deep("anna", list), ten_deep("anna", tuple), ten_deep(1, list), ten_deep(None, tuple),
)


# The things that are no book, order or name, with good ones of the other kinds among them.
NO_BOOKS = STRANGE_THINGS + (1, 2, 3, "", "anna", "a", "abcdefgh")
NO_ORDERS = STRANGE_THINGS + ("", "anna", "1", "2", "3", ("anna",), ["anna"], [1], (1,), "12345678")
NO_NAMES = STRANGE_THINGS + (1, 2, 3, "", ("anna",), ("a",), ["a"])
NO_TEXTS = tuple(thing for thing in NO_NAMES if thing != "")

ALL_WANTED = (1, 8, "", "", (), True)
NONE_TOLD = (1, 8, "", "", (), False)
SIX_NAMES = ("ann", "anna", "b", "ba", "c", "d")

NO_EDGES = (
    "abcd", "A", "aB", "1", " ", "a ", " a", "a\n", "\n", "-", "`", "{", "\u00e4", "\u0430", "\uff41", "a\x00",
    None, 0, 1, True, False, ["a"], ("a",), [], (), ["a", "b"], "abcdefghi",
)

# What is none in each of the six parts of a wish, whatever the other parts are.
SPOILT_PARTS = (
    (0, 9, -1, True, False, None, "1", "", "a", [1], (1,), (), [], 10 ** 30),
    (0, 9, -1, True, False, None, "8", "", "a", [8], (8,), (), [], 10 ** 30),
    NO_EDGES,
    NO_EDGES,
    (None, 0, 1, True, False, "", "a", "anna", [], ["a"], ["a", "b"], ("b", "a"), ("a", "a"), ("a", "b", "b"),
     ("a", "c", "b"), ("b", "a", "c"), ("",), ("", "a"), ("A",), ("a", "A"), ("abcdefghi",), (1,), (1, 2), (True,),
     (None,), ("a", 1), (1, "a"), ("a", None), (("a",),), (["a"],), ("a", ("b",)), ("a", ["b"]), ("an na",),
     ("a", "b", "c", "d", "e", "f", "g"), ten_deep("a", tuple)),
    (None, 0, 1, 2, -1, "", "True", "a", [], (), [True], (True,), [False], (False,)),
)


def with_part(wish, place, thing):
    return wish[:place] + (thing,) + wish[place + 1:]


SPOILT_WISHES = tuple(
    with_part(wish, place, thing)
    for wish in (ALL_WANTED, NONE_TOLD, (3, 5, "an", "na", ("anna",), False))
    for place, things in enumerate(SPOILT_PARTS) for thing in things
) + (
    (3, 2, "", "", (), True), (8, 7, "", "", (), True), (8, 1, "", "", (), True),
    ALL_WANTED[:5], ALL_WANTED[1:], ALL_WANTED + (True,), ALL_WANTED + ((),), ALL_WANTED * 2, ALL_WANTED[:1],
    list(ALL_WANTED), (ALL_WANTED,), [ALL_WANTED], (None,) * 6, (1,) * 6, ("",) * 6, ((),) * 6, (True,) * 6, [1] * 6,
    "abcdef", ("a", "b", "c", "d", "e", "f"), ten_deep(ALL_WANTED, tuple), ten_deep(ALL_WANTED, list),
)
NO_WISHES = STRANGE_THINGS + SPOILT_WISHES + (1, 2, 3, "", "anna", ("anna",), ("anna", "ann"))
NO_WHOLE_NUMBERS = tuple(thing for thing in STRANGE_THINGS if thing not in (4, 5)) + (
    True, False, None, "1", "8", "20", "", "anna", [1], (1,), [8], (8,), [True], (True,), ALL_WANTED,
)
NO_LENGTHS = NO_WHOLE_NUMBERS + (0, 9, -1, -8, 10, 20, 99)
NO_MANIES = NO_WHOLE_NUMBERS + (0, 21, -1, -20, 22, 99)

# What is not to be drawn by: no list or tuple, too long, or with something else in it than it takes.
NO_DRAWING = (
    None, 0, 1, -1, 10 ** 30, True, False, "", "0", "0123", "anna",
    [True], [False], (True,), (False,), [0, True], [False, 1], (0, 0, True), [None], (None,), [0, None], ["0"], [""],
    [0, "1"], ("anna",), ["anna", "ann"], [[]], [()], ([],), ((),), [[0]], [(0,)], ((0,),), ([0],), [0, [1]],
    [-1], (-1,), [0, -1], [-(10 ** 30)], [10000], (10000,), [0, 10000], [10 ** 30], [0] * 98 + [10000],
    [0] * 98 + [True], [0] * 98 + [-1], (0,) * 98 + (None,), [0] * 100, (0,) * 100, [9999] * 100, [0] * 500,
    ten_deep(0, list), ten_deep(0, tuple), ALL_WANTED, ("a", 1),
)

# What is no list of books: no list at all, or one with something else in it.
NO_BOOKSHELVES = (
    None, 0, 1, True, False, "", "anna", (), ("anna",), ("anna", "ann"), (("anna",),), (("anna",), ("ann",)), ((),),
    ["anna"], ["anna", "ann"], [("anna",), "ann"], [["anna"]], [("anna",), ["ann"]], [[("anna",)]], [()],
    [("anna",), ()], [("anna",), None], [None], [True], [1],
    [("anna",), 1], [("",)], [("anna", "")], [("Anna",)], [("anna", 1)],
    [("a",) * 9], [("a",), ("abcdefghi",)], ten_deep(("anna",), list)[0], ten_deep(("anna",), tuple), [ALL_WANTED],
)


def refusal(function, *things):
    """The very class of what function raises, None where it answers; asks that the things stay as they were."""
    before = copy.deepcopy(things)
    raised = None
    try:
        function(*things)
    except ValueError as error:
        raised = type(error)
    if repr(things) != repr(before):
        raise AssertionError(f"changed: {before!r} to {things!r}")
    return raised


def slow_row(book, order, end):
    """What stands behind the end, found by a look at every place of every name."""
    found = []
    for name in book:
        marked = name + "."
        for place in range(len(marked)):
            begun = marked[:place]
            whole = len(begun) <= order and begun == end
            last = len(begun) > order and len(end) == order and begun.endswith(end)
            if whole or last:
                found.append(marked[place].strip("."))
    return tuple(sorted((letter, found.count(letter)) for letter in set(found)))


def slow_table(book, order):
    ends = {""}
    for name in book:
        for start in range(len(name)):
            ends.update(name[start:stop] for stop in range(start + 1, start + order + 1))
    rows = [(end, slow_row(book, order, end)) for end in sorted(ends)]
    return [(end, row) for end, row in rows if row]


def slow_share(book, order, name):
    product = Fraction(1)
    for place in range(len(name) + 1):
        row = dict(slow_row(book, order, name[max(0, place - order):place]))
        if not row:
            return Fraction(0)
        product *= Fraction(row.get(name[place:place + 1], 0), sum(row.values()))
    return product


@functools.lru_cache(maxsize=None)
def slow_made(book, order):
    """All names that are made, with their shares, found by going on from each text with each letter behind its end."""
    found = {}
    begun = [("", Fraction(1))]
    while begun:
        text, weight = begun.pop()
        row = slow_row(book, order, text[max(0, len(text) - order):])
        for letter, often in row:
            part = weight * Fraction(often, sum(count for other, count in row))
            if letter == "":
                found[text] = part
            elif len(text) < 8:
                begun.append((text + letter, part))
    return found


def slow_fits(book, wish, name):
    least, most, head, tail, barred, told = wish
    return (
        len(name) in range(least, most + 1) and name[:len(head)] == head and name[len(name) - len(tail):] == tail
        and len(name) >= len(tail) and name not in barred and (told or name not in book)
    )


def slow_wanted(book, order, wish):
    """All names that are made and as wanted, as tuples (share, name), the likeliest ones first."""
    pairs = [(part, name) for name, part in slow_made(book, order).items() if slow_fits(book, wish, name)]
    return sorted(pairs, key=lambda pair: (-pair[0], pair[1]))


def sample_wishes(book):
    """Wishes that cut a book's names at many places, with some that no name is as wanted by."""
    first, last = book[0], book[-1]
    barred = tuple(sorted(set(book))[:6])
    wishes = [
        (1, 8, "", "", barred, True), (1, 8, "", "", barred, False), (1, 8, "", "", ("x", "y", "zz"), True),
        (1, 8, first[:1], "", (), True), (1, 8, "", last[-1:], (), True), (1, 8, first[:2], last[-2:], (), True),
        (1, 8, first[:3], last[-3:], (), False), (1, 8, first[:3], first[-3:], (), True), (2, 5, "a", "a", (), True),
        (1, 4, first[-2:], first[:2], (), True), (1, 8, "ab", "ba", ("ab", "aba"), True), (1, 8, "q", "", (), True),
        (1, 8, "", "qq", (), True), (1, 2, "aaa", "", (), True), (1, 2, "", "aaa", (), True),
        (3, 3, "ab", "bb", (), True), (3, 6, "", "n", (), False), (len(first), len(first), "", "", (first,), True),
    ]
    wishes.extend((length, length, "", "", (), told) for length in range(1, 9) for told in (True, False))
    return [ALL_WANTED, NONE_TOLD] + wishes


def slow_drawn(book, order, numbers):
    """The text drawn and how many numbers it took, by taking away and counting on; None, where there is no end."""
    rows = dict(slow_table(book, order))
    text = ""
    for taken, number in enumerate(numbers, start=1):
        row = rows[text[max(0, len(text) - order):]]
        anything = sum(often for letter, often in row)
        while number >= anything:
            number -= anything
        counted = 0
        for letter, often in row:
            counted += often
            if number < counted:
                break
        if letter == "":
            return (text, taken)
        text += letter
    return None


def slow_begun(book, order, text):
    """All names that are made and begin with the text, with their shares."""
    return {name: part for name, part in slow_made(book, order).items() if name[:len(text)] == text}


class SlowSteps:
    """All that was there behind each step, in one row, and the place in it by now."""

    def __init__(self, first):
        self.row = [(first, None)]
        self.place = 0

    def now(self):
        return self.row[self.place][0]

    def step(self, after, word):
        self.row = self.row[:self.place + 1] + [(after, word)]
        self.place += 1

    def back(self):
        self.place -= 1
        return self.row[self.place + 1][1]

    def forth(self):
        self.place += 1
        return self.row[self.place][1]

    def many(self):
        return (self.place, len(self.row) - 1 - self.place)


def as_tuple(fraction):
    return (fraction.numerator, fraction.denominator)
