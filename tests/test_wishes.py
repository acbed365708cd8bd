"""Wishes: 0.3 and 4.1."""

import itertools
import string
import unittest

from kinnames.errors import NoBook, NoName, NoWish
from kinnames.wishes import fits, is_wish
from tests.helpers import (
    ALL_WANTED, MANY_BOOKS, NO_BOOKS, NO_NAMES, NO_WISHES, NONE_TOLD, SIX_NAMES, SMALL_NAMES, SPOILT_PARTS,
    SPOILT_WISHES, STRANGE_THINGS, refusal, sample_wishes, slow_fits, ten_deep, with_part,
)

ANNAS = ("anna", "ann")


class Wishes(unittest.TestCase):
    def test_least_and_most_at_their_bounds(self):
        for least, most in itertools.product(range(-2, 12), repeat=2):
            wish = (least, most, "", "", (), True)
            self.assertIs(is_wish(wish), 1 <= least <= most <= 8, wish)

    def test_head_and_tail_at_their_bounds(self):
        for head, tail in itertools.product(("", "a", "zz", "abc", "abcd", "abcde"), repeat=2):
            wish = (1, 8, head, tail, (), True)
            self.assertIs(is_wish(wish), len(head) <= 3 and len(tail) <= 3, wish)

    def test_head_and_tail_longer_than_the_names_wanted(self):
        self.assertIs(is_wish((1, 1, "abc", "xyz", (), True)), True)
        self.assertIs(is_wish((1, 2, "abc", "", (), False)), True)

    def test_signs_of_head_and_tail(self):
        signs = [chr(number) for number in range(0x180)] + ["\u0430", "\uff41", "\u2170", "\ud800"]
        for sign in signs:
            for text in (sign, "a" + sign, sign + "a", "ab" + sign):
                for place in (2, 3):
                    told = is_wish(with_part(ALL_WANTED, place, text))
                    self.assertIs(told, sign in string.ascii_lowercase, repr(text))

    def test_barred_at_its_bounds(self):
        letters = tuple("abcdefgh")
        for many in range(9):
            self.assertIs(is_wish(with_part(ALL_WANTED, 4, letters[:many])), many <= 6, many)
        self.assertIs(is_wish(with_part(NONE_TOLD, 4, SIX_NAMES)), True)
        self.assertIs(is_wish(with_part(ALL_WANTED, 4, ("a", "abcdefgh"))), True)
        self.assertIs(is_wish(with_part(ALL_WANTED, 4, ("a", "abcdefghi"))), False)

    def test_barred_is_rising(self):
        for names in itertools.product(("a", "aa", "ab", "b"), repeat=3):
            rising = names[0] < names[1] < names[2]
            self.assertIs(is_wish(with_part(ALL_WANTED, 4, names)), rising, names)
        for place in range(5):
            names = list(SIX_NAMES)
            names[place], names[place + 1] = names[place + 1], names[place]
            self.assertIs(is_wish(with_part(ALL_WANTED, 4, tuple(names))), False, names)
            names[place] = names[place + 1]
            self.assertIs(is_wish(with_part(ALL_WANTED, 4, tuple(names))), False, names)

    def test_each_barred_name_counts(self):
        for place in range(6):
            for wrong in ("", "A", "an na", "abcdefghi", 1, True, None, ["b"], ("b",)):
                names = SIX_NAMES[:place] + (wrong,) + SIX_NAMES[place + 1:]
                self.assertIs(is_wish(with_part(ALL_WANTED, 4, names)), False, repr(names))

    def test_told_is_a_truth(self):
        self.assertIs(is_wish(with_part(ALL_WANTED, 5, True)), True)
        self.assertIs(is_wish(with_part(ALL_WANTED, 5, False)), True)
        for thing in (0, 1, None, "", "True", (), []):
            self.assertIs(is_wish(with_part(ALL_WANTED, 5, thing)), False, repr(thing))

    def test_truths_are_no_numbers(self):
        for least, most in ((True, 8), (1, True), (True, True), (False, 8), (1, False)):
            self.assertIs(is_wish((least, most, "", "", (), True)), False, (least, most))

    def test_spoilt_in_each_part(self):
        self.assertEqual(len(SPOILT_PARTS), 6)
        for wish in SPOILT_WISHES:
            self.assertIs(is_wish(wish), False, repr(wish))

    def test_a_part_too_many_or_too_few(self):
        for many in range(6):
            self.assertIs(is_wish(ALL_WANTED[:many]), False, many)
            self.assertIs(is_wish(ALL_WANTED[:many] + ALL_WANTED[many + 1:]), False, many)
            for part in ALL_WANTED:
                self.assertIs(is_wish(ALL_WANTED[:many] + (part,) + ALL_WANTED[many:]), False, (many, part))

    def test_a_list_is_no_wish(self):
        self.assertIs(is_wish(list(ALL_WANTED)), False)
        self.assertIs(is_wish((1, 8, "", "", ["a"], True)), False)
        self.assertIs(is_wish((1, 8, ["a"], "", (), True)), False)

    def test_things_of_every_kind_are_no_wishes(self):
        for thing in NO_WISHES:
            self.assertIs(is_wish(thing), False, repr(thing))
        for place in range(6):
            for kind in (list, tuple):
                self.assertIs(is_wish(with_part(ALL_WANTED, place, ten_deep(ALL_WANTED[place], kind))), False)

    def test_things_are_as_they_were(self):
        for thing in NO_WISHES + (ALL_WANTED, NONE_TOLD):
            self.assertIsNone(refusal(is_wish, thing), repr(thing))

    def test_all_samples_are_wishes(self):
        for book in MANY_BOOKS:
            for wish in sample_wishes(book):
                self.assertIs(is_wish(wish), True, wish)


class Fits(unittest.TestCase):
    def test_too_short_and_too_long(self):
        for length in range(1, 9):
            name = "abcdefgh"[:length]
            for least in range(1, 9):
                for most in range(least, 9):
                    told = fits(ANNAS, (least, most, "", "", (), True), name)
                    self.assertIs(told, least <= length <= most, (least, most, name))

    def test_another_head(self):
        for head, wanted in (
            ("", True), ("h", True), ("ha", True), ("han", True), ("a", False), ("hb", False), ("haa", False),
            ("xan", False), ("nna", False),
        ):
            self.assertIs(fits(ANNAS, (1, 8, head, "", (), True), "hanna"), wanted, head)

    def test_another_tail(self):
        for tail, wanted in (
            ("", True), ("a", True), ("na", True), ("nna", True), ("n", False), ("nb", False), ("ana", False),
            ("nnx", False), ("han", False),
        ):
            self.assertIs(fits(ANNAS, (1, 8, "", tail, (), True), "hanna"), wanted, tail)

    def test_a_name_shorter_than_head_or_tail(self):
        self.assertIs(fits(ANNAS, (1, 8, "abc", "", (), True), "ab"), False)
        self.assertIs(fits(ANNAS, (1, 8, "", "abc", (), True), "bc"), False)
        self.assertIs(fits(ANNAS, (1, 8, "abc", "", (), True), "abc"), True)
        self.assertIs(fits(ANNAS, (1, 8, "", "abc", (), True), "abc"), True)

    def test_head_and_tail_that_overlap(self):
        self.assertIs(fits(ANNAS, (1, 8, "aba", "aba", (), True), "aba"), True)
        self.assertIs(fits(ANNAS, (1, 8, "aba", "aba", (), True), "ababa"), True)
        self.assertIs(fits(ANNAS, (1, 8, "aba", "aba", (), True), "abaa"), False)
        self.assertIs(fits(ANNAS, (1, 8, "aba", "aba", (), True), "abaaba"), True)
        self.assertIs(fits(ANNAS, (1, 8, "ab", "bc", (), True), "abc"), True)
        self.assertIs(fits(ANNAS, (1, 8, "ab", "bc", (), True), "abbc"), True)
        self.assertIs(fits(ANNAS, (1, 8, "a", "a", (), True), "a"), True)
        self.assertIs(fits(ANNAS, (1, 8, "a", "b", (), True), "a"), False)

    def test_barred_names(self):
        for name in SIX_NAMES:
            for told in (True, False):
                self.assertIs(fits(("zoe",), (1, 8, "", "", SIX_NAMES, told), name), False, name)
        self.assertIs(fits(("zoe",), (1, 8, "", "", SIX_NAMES, True), "an"), True)
        self.assertIs(fits(("zoe",), (1, 8, "", "", SIX_NAMES, True), "annaa"), True)

    def test_told_names(self):
        for name in ANNAS:
            self.assertIs(fits(ANNAS, ALL_WANTED, name), True)
            self.assertIs(fits(ANNAS, NONE_TOLD, name), False)
        self.assertIs(fits(ANNAS, ALL_WANTED, "an"), True)
        self.assertIs(fits(ANNAS, NONE_TOLD, "an"), True)
        self.assertIs(fits(ANNAS, with_part(ALL_WANTED, 4, ("anna",)), "anna"), False)
        self.assertIs(fits(("a",) * 8, NONE_TOLD, "a"), False)

    def test_names_that_the_book_does_not_make(self):
        self.assertIs(fits(ANNAS, ALL_WANTED, "xyz"), True)
        self.assertIs(fits(ANNAS, NONE_TOLD, "xyz"), True)

    def test_like_a_look_at_each_part(self):
        for book in MANY_BOOKS:
            for wish in sample_wishes(book):
                for name in SMALL_NAMES + book + ("x", "zz", "aba", "abba", "abcdefgh", "aaaaaaaa", "qq"):
                    self.assertIs(fits(book, wish, name), bool(slow_fits(book, wish, name)), (book, wish, name))


class Refusals(unittest.TestCase):
    def test_what_is_no_book(self):
        for thing in NO_BOOKS:
            self.assertIs(refusal(fits, thing, ALL_WANTED, "a"), NoBook, repr(thing))

    def test_what_is_no_wish(self):
        for thing in NO_WISHES:
            self.assertIs(refusal(fits, ANNAS, thing, "a"), NoWish, repr(thing))

    def test_what_is_no_name(self):
        for thing in NO_NAMES + ("", ALL_WANTED):
            for wish in (ALL_WANTED, NONE_TOLD, (8, 8, "x", "y", (), True)):
                self.assertIs(refusal(fits, ANNAS, wish, thing), NoName, repr(thing))

    def test_the_first_that_is_due(self):
        for thing in STRANGE_THINGS:
            self.assertIs(refusal(fits, thing, thing, thing), NoBook, repr(thing))
            self.assertIs(refusal(fits, thing, ALL_WANTED, thing), NoBook, repr(thing))
            self.assertIs(refusal(fits, thing, thing, "a"), NoBook, repr(thing))
            self.assertIs(refusal(fits, ANNAS, thing, thing), NoWish, repr(thing))

    def test_what_is_right_is_not_refused(self):
        for wish in sample_wishes(ANNAS):
            for name in ("a", "z", "anna", "abcdefgh"):
                self.assertIsNone(refusal(fits, ANNAS, wish, name))


if __name__ == "__main__":
    unittest.main()
