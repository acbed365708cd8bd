"""Ways through the rows of a book, from the empty text to the end of a name.

A way begins with a weight, and each of its steps leaves the step's part of it. A pattern is a list of the letters of a
way, place by place, with ANY where each letter will do. Nothing here asks whether what is handed in is right.
"""

from kinnames.books import end_of
from kinnames.shares import NOUGHT, WHOLE, greatest_divisor, part_in

ANY = ""


def common_multiple(one, other):
    return one // greatest_divisor(one, other) * other


# A name has at most nine steps, its end being one. Begun with this weight, all of them leave whole numbers, and these
# can be held against one another as they are, whatever the lengths of their names.
def whole_weight(rows):
    unit = 1
    for row in rows.values():
        unit = common_multiple(unit, sum(row.values()))
    return unit ** 9


def parts_by_rows(rows):
    parts = {}
    for end, row in rows.items():
        parts[end] = dict([(letter, part_in(row, letter)) for letter in row])
    return parts


# With these each way keeps its weight: begun with 1, the ways are counted.
def even_parts(rows):
    parts = {}
    for end, row in rows.items():
        parts[end] = dict([(letter, WHOLE) for letter in row])
    return parts


def left_of(weight, part):
    return weight * part[0] // part[1]


def may_follow(letter, wanted):
    return letter != "" and wanted in (ANY, letter)


def next_sums(parts, order, sums, wanted):
    found = {}
    for end, weight in sums.items():
        for letter, part in parts[end].items():
            if may_follow(letter, wanted):
                reached = end_of(end + letter, order)
                found[reached] = found.get(reached, 0) + left_of(weight, part)
    return found


def sum_along(parts, order, weight, pattern):
    sums = {"": weight}
    for wanted in pattern:
        sums = next_sums(parts, order, sums, wanted)
    return sum([left_of(heavy, parts[end].get("", NOUGHT)) for end, heavy in sums.items()])


def heaviest(pairs, many):
    return sorted(pairs, key=lambda pair: (-pair[0], pair[1]))[:many]


# Texts of one length and one end go on alike, so those behind the first ones can never come before them again.
def next_heaviest(parts, order, layer, wanted, many):
    found = {}
    for end, pairs in layer.items():
        for letter, part in parts[end].items():
            if may_follow(letter, wanted):
                longer = found.setdefault(end_of(end + letter, order), [])
                longer.extend([(left_of(weight, part), text + letter) for weight, text in pairs])
    for end in list(found):
        found[end] = heaviest(found[end], many)
    return found


def heaviest_along(parts, order, weight, pattern, many):
    layer = {"": [(weight, "")]}
    for wanted in pattern:
        layer = next_heaviest(parts, order, layer, wanted, many)
    ended = []
    for end, pairs in layer.items():
        if "" in parts[end]:
            ended.extend([(left_of(heavy, parts[end][""]), text) for heavy, text in pairs])
    return heaviest(ended, many)
