"""Point [19]: the most comparisons of a play, for lists of any size, and cases with so many."""

import random
import unittest

from heapcode.codes import Code
from heapcode.costs import most, worst
from heapcode.errors import BadKind, BadSize
from heapcode.play import play
from tests.asking import SETTLING, error_of
from tests.second import read
from tests.small_lists import cases
from tests.sparse import Sparse
from tests.symbols import most_comparisons
from tests.texts import LEAST, UP, right_codes, slipped_codes
from tests.wild_texts import wild_codes

KINDS = ("put", "take", "top")
# Sizes up to one full level more than the small ones, those about the full levels among them.
SIZES = {2: list(range(10)) + [14, 15, 16, 17], 3: list(range(9)) + [12, 13, 14, 15], 4: list(range(8)) + [20, 21, 22]}


def full(width, levels):
    """How many places a tree has with so many full levels."""
    return sum(width ** level for level in range(levels))


def sizes_of_60_figures(width):
    """Sizes about full levels, and others."""
    levels = 0
    while full(width, levels) < 10 ** 60:
        levels += 1
    return [full(width, levels) + more for more in (-2, -1, 0, 1, 2)] + [10 ** 60, 10 ** 60 + 7 ** 50, 3 * 10 ** 59]


def depth_of(place, width):
    found = 0
    while place:
        place = (place - 1) // width
        found += 1
    return found


def longest_sift(count, width):
    """The most comparisons of a sift from the top of so many items, with one comparison for each child on the way."""
    level = depth_of(count - 1, width) if count else 0
    return width * (level - 1) + min(width, count - full(width, level)) if level else 0


class TestMost(unittest.TestCase):

    def test_the_document(self):
        up, least = Code("put", 2, UP), Code("take", 2, LEAST)
        found = [most(up, 0), most(up, 7), most(up, 10 ** 60), most(least, 1), most(least, 2), most(least, 3)]
        self.assertEqual(found, [0, 3, 199, 0, 0, 1])

    def test_no_comparison_at_all(self):
        for kind in KINDS:
            for text in ("", "quit", "down has 1\npick 1\ngo\nend", "up below root\ngo\nend"):
                for size in (1, 2, 10 ** 60):
                    self.assertEqual(most(Code(kind, 2, text), size), 0)
        self.assertEqual(most(Code("put", 2, ""), 0), 0)

    def test_going_up_takes_one_comparison_for_each_level(self):
        for width in (2, 3, 4):
            code = Code("put", width, UP)
            for size in list(range(50)) + sizes_of_60_figures(width) + [10 ** 200, 10 ** 300 + 1]:
                self.assertEqual(most(code, size), depth_of(size, width))

    def test_sifting_takes_one_comparison_for_each_child_on_the_way(self):
        for width in (2, 3, 4):
            for code in right_codes(width, False, ("take",)):
                # Those that go to the bottom first take fewer on the way down, and some on the way up.
                if "up" in code.text:
                    continue
                for size in list(range(1, 50)) + sizes_of_60_figures(width) + [10 ** 120]:
                    self.assertEqual(most(code, size), longest_sift(size - 1, width), (code.text, size))

    def test_a_comparison_that_is_beyond_is_none(self):
        self.assertEqual(most(Code("take", 2, "down inside and hand < at\nend"), 10 ** 60), 0)
        self.assertEqual(most(Code("take", 2, "down at < mate\nend"), 5), 0)
        text = "grab\ndown hand <= at and at <= kid 1 and kid 1 < mate\nend"
        self.assertEqual([most(Code("take", 2, text), size) for size in (1, 2, 10 ** 60)], [1, 2, 2])

    def test_endless_plays_count_up_to_their_end(self):
        code = Code("take", 2, "grab\ndown hand <= at\nif has 1 and at <= kid 1\nend\nend")
        self.assertEqual([most(code, size) for size in (1, 2, 10 ** 60)], [1, 2, 2])
        code = Code("top", 2, "grab given\ndown has 1 and kid 1 < hand\npick 1\nswap\nend")
        # The item below goes up and the other one down, which is swapped once more.
        self.assertEqual(most(code, 2), max(play(code, *case).compares for case in cases("top", 2, 2, 4)))

    def test_keys_that_are_equal(self):
        strict = Code("put", 2, UP)
        self.assertEqual(most(Code("put", 2, UP.replace("at < mate", "at <= mate")), 10 ** 60), most(strict, 10 ** 60))
        # Only where all are equal is each of them looked at.
        text = "grab\ndown has 1 and kid 1 <= hand and hand <= kid 1\npick 1\ngo\nend"
        self.assertEqual([most(Code("take", 2, text), size) for size in (1, 2, 3, 4, 10 ** 60)], [0, 2, 2, 4, 398])


class TestAgainstPlays(unittest.TestCase):

    def check(self, code, sizes):
        """The plain way, which plays all that can be, and the case that is told, which is played."""
        for size in sizes:
            if code.kind != "put" and size == 0:
                continue
            where = (code.kind, code.width, code.text, size)
            found = most(code, size)
            self.assertEqual(found, most_comparisons(code, size), where)
            told, rest, start, given = worst(code, size)
            items = [(told.get(place, rest), place) for place in range(size)]
            case = (items, start, None if given is None else (given, size))
            self.assertEqual(play(code, *case).compares, found, where)

    def test_right_codes(self):
        for width in (2, 3, 4):
            for code in right_codes(width, False, KINDS):
                self.check(code, SIZES[width])

    def test_codes_with_slips(self):
        for code in slipped_codes(random.Random(41), 250, (2, 2, 3, 4), KINDS):
            self.check(code, SIZES[code.width])

    def test_wild_codes(self):
        for code in wild_codes(random.Random(42), 250, (2, 2, 3, 4), KINDS):
            self.check(code, SIZES[code.width])

    def test_all_small_lists_with_few_keys(self):
        for code in slipped_codes(random.Random(43), 40, (2, 3), KINDS) + wild_codes(random.Random(44), 40, (2, 3), KINDS):
            for size in range(5):
                counts = [play(code, *case).compares for case in cases(code.kind, code.width, size, size + 1)]
                if counts:
                    self.assertEqual(most(code, size), max(counts), (code.kind, code.width, code.text, size))


class TestWorst(unittest.TestCase):

    def check(self, code, size):
        found = worst(code, size)
        self.assertIsInstance(found, tuple)
        told, rest, start, given = found
        where = (code.kind, code.width, code.text, size)
        self.assertIsInstance(told, dict)
        self.assertIsNone(start)
        self.assertEqual(given is None, code.kind == "take")
        keys = list(told.values()) + [rest] + ([] if given is None else [given])
        self.assertTrue(all(isinstance(key, int) and not isinstance(key, bool) for key in list(told) + keys), where)
        self.assertTrue(all(0 <= place < size for place in told), where)
        self.assertTrue(all(key < rest for key in told.values()), where)
        # A place of which nothing is told has the key rest, so no place below it is told.
        for place, key in told.items():
            self.assertTrue(place == 0 or told.get((place - 1) // code.width, rest) <= key, where)
        first = size if code.kind == "put" else 0
        given = None if given is None else (given, -1)
        found = Sparse(code.width, read(code.text), size, told, rest, first, given)
        self.assertEqual(found.compares, most(code, size), where)

    def test_60_figures(self):
        for width in (2, 3, 4):
            for code in right_codes(width, False, KINDS):
                for size in sizes_of_60_figures(width)[1:6]:
                    self.check(code, size)

    def test_codes_of_all_sorts(self):
        chance = random.Random(45)
        for code in slipped_codes(chance, 80, (2, 3, 4), KINDS) + wild_codes(chance, 80, (2, 3, 4), KINDS):
            for size in (1, 2, 30, chance.randrange(10 ** 59, 10 ** 60), chance.choice(sizes_of_60_figures(code.width))):
                self.check(code, size)

    def test_the_empty_list(self):
        told, rest, start, given = worst(Code("put", 2, UP), 0)
        self.assertEqual((told, start), ({}, None))
        self.assertTrue(isinstance(rest, int) and isinstance(given, int))

    def test_the_dict_is_new(self):
        code = Code("take", 2, LEAST)
        one = worst(code, 9)
        one[0].clear()
        self.assertNotEqual(worst(code, 9)[0], {})


class TestErrors(unittest.TestCase):

    def test_other_kinds(self):
        for call in (most, worst):
            for kind in SETTLING + ("out",):
                for size in (-1, 0, 1, 10 ** 60):
                    error = error_of(call, Code(kind, 2, ""), size)
                    self.assertIsInstance(error, BadKind)
                    self.assertEqual(error.kind, kind)

    def test_sizes_without_a_list(self):
        for call in (most, worst):
            for kind, least in (("put", 0), ("take", 1), ("top", 1)):
                for size in (least - 1, least - 2, -10 ** 60):
                    error = error_of(call, Code(kind, 3, ""), size)
                    self.assertIsInstance(error, BadSize)
                    self.assertEqual(error.n, size)
                self.assertIsNone(error_of(call, Code(kind, 3, ""), least))

    def test_by_name(self):
        code = Code("put", 2, UP)
        self.assertEqual(most(n=7, code=code), 3)
        self.assertEqual(worst(n=7, code=code), worst(code, 7))


if __name__ == "__main__":
    unittest.main()
