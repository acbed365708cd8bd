"""What several test files need: sample books, things of every kind, and slow second ways to the same answers."""

import copy
import itertools
from fractions import Fraction

ORDERS = (1, 2, 3)

SMALL_NAMES = tuple(
    "".join(letters) for length in (1, 2, 3) for letters in itertools.product("ab", repeat=length)
)

SMALL_BOOKS = tuple(
    book for many in (1, 2) for book in itertools.product(SMALL_NAMES, repeat=many)
)

LARGER_BOOKS = (
    ("anna", "ann"),
    ("anna", "hanna", "johanna", "anton", "anna"),
    ("mara", "mira", "maria", "miriam", "marian", "amir"),
    ("abcdefgh",) * 8,
    ("abababab", "babababa", "aaaaaaaa", "bbbbbbbb", "a", "b", "z", "zz"),
    ("zyxwvuts", "abcabcab", "mnmnmnmn", "qqqqqqqq", "ab", "abc", "abcd", "abcde"),
)

BOOKS = SMALL_BOOKS + LARGER_BOOKS


def ten_deep(thing, kind):
    for level in range(10):
        thing = kind([thing])
    return thing


# Nothing in here is a name, a book, an order or the empty text.
STRANGE_THINGS = (
    0, 4, -1, 5, 10 ** 30, -(10 ** 30), True, False, None,
    "A", "Anna", "anNa", "anna ", " anna", "an na", "anna\n", "\n", "-", ".", "1", "a1", "\u00e4nna", "\u00df",
    "\u0430nna", "\uff41", "`", "{", "@", "[", "a\x00", "abcdefghi", "a" * 99,
    [], ["anna"], ["anna", "ann"], [["anna"]], [0], [None], [True], [1, 2],
    (), ("",), ("anna", ""), ("", "anna"), ("anna", "Ann"), ("anna", 1), ("anna", None), ("anna", True), (True,),
    (("anna",),), ("anna", ("ann",)), (["anna"],), ("abcdefghi",), ("a",) * 9, ("anna", "ann1"), (1,), (0, 1),
    ten_deep("anna", list), ten_deep("anna", tuple), ten_deep(1, list), ten_deep(None, tuple),
)


# The things that are no book, order or name, with good ones of the other kinds among them.
NO_BOOKS = STRANGE_THINGS + (1, 2, 3, "", "anna", "a", "abcdefgh")
NO_ORDERS = STRANGE_THINGS + ("", "anna", "1", "2", "3", ("anna",), ["anna"], [1], (1,), "12345678")
NO_NAMES = STRANGE_THINGS + (1, 2, 3, "", ("anna",), ("a",), ["a"])
NO_TEXTS = tuple(thing for thing in NO_NAMES if thing != "")


def refusal(function, *things):
    """The very class of what function raises, None where it answers; asks that the things stay as they were."""
    before = copy.deepcopy(things)
    raised = None
    try:
        function(*things)
    except ValueError as error:
        raised = type(error)
    if repr(things) != repr(before):
        raise AssertionError(f"changed: {before!r} to {things!r}")
    return raised


def slow_row(book, order, end):
    """What stands behind the end, found by a look at every place of every name."""
    found = []
    for name in book:
        marked = name + "."
        for place in range(len(marked)):
            begun = marked[:place]
            whole = len(begun) <= order and begun == end
            last = len(begun) > order and len(end) == order and begun.endswith(end)
            if whole or last:
                found.append(marked[place].strip("."))
    return tuple(sorted((letter, found.count(letter)) for letter in set(found)))


def slow_table(book, order):
    ends = {""}
    for name in book:
        for start in range(len(name)):
            ends.update(name[start:stop] for stop in range(start + 1, start + order + 1))
    rows = [(end, slow_row(book, order, end)) for end in sorted(ends)]
    return [(end, row) for end, row in rows if row]


def slow_share(book, order, name):
    product = Fraction(1)
    for place in range(len(name) + 1):
        row = dict(slow_row(book, order, name[max(0, place - order):place]))
        if not row:
            return Fraction(0)
        product *= Fraction(row.get(name[place:place + 1], 0), sum(row.values()))
    return product


def as_tuple(fraction):
    return (fraction.numerator, fraction.denominator)
