"""What play takes: the kinds with their smallest lists, and what it refuses, in the order of the document."""

import unittest

from heapcode.codes import Code
from heapcode.errors import BadCase, BadItem, HeapError
from heapcode.play import play
from tests.asking import KINDS, SETTLING, VALUES, error_of
from tests.small_lists import cases, edges_of_kind, first_places

GIVEN = ("put", "top")
STARTED = ("out",) + SETTLING


def bare(kind, width=2):
    return Code(kind, width, "")


class TestKinds(unittest.TestCase):

    def fits(self, kind, keys, start=None, given=None, width=2):
        """Whether play takes the list with these keys."""
        items = [(key, place) for place, key in enumerate(keys)]
        error = error_of(play, bare(kind, width), items, start, given)
        if error is not None:
            self.assertEqual((error.__class__, error.what), (BadCase, "items"))
        return error is None

    def test_the_empty_list(self):
        self.assertTrue(self.fits("put", [], given=(1, 1)))
        self.assertFalse(self.fits("take", []))
        self.assertFalse(self.fits("top", [], given=(1, 1)))
        for kind in STARTED:
            error = error_of(play, bare(kind), [], 0)
            self.assertEqual((error.__class__, error.what), (BadCase, "start"))

    def test_one_item(self):
        self.assertTrue(self.fits("put", [5], given=(1, 1)))
        self.assertTrue(self.fits("take", [5]))
        self.assertTrue(self.fits("top", [5], given=(1, 1)))
        for kind in STARTED:
            self.assertTrue(self.fits(kind, [5], 0))

    def test_two_items(self):
        for kind, start, given in (("put", None, (1, 9)), ("take", None, None), ("top", None, (1, 9)), ("out", 1, None)):
            self.assertTrue(self.fits(kind, [5, 5], start, given))
            self.assertFalse(self.fits(kind, [5, 4], start, given))
        for kind, start, keys, right in (
                ("either", 0, [5, 4], True), ("either", 1, [5, 4], True), ("above", 1, [5, 4], True),
                ("above", 0, [5, 4], False), ("above", 0, [5, 5], True), ("below", 0, [5, 4], True),
                ("below", 1, [5, 4], False), ("below", 1, [5, 5], True), ("tree", 0, [5, 4], True),
                ("tree", 1, [5, 4], True)):
            self.assertEqual(self.fits(kind, keys, start), right, (kind, start, keys))

    def test_the_settling_kinds_around_the_start(self):
        # The start is the place 1, its parent has the key 3, its children stand at 3 and 4.
        for keys, either, above, below in (
                ([3, 5, 3, 6, 7], True, True, True), ([3, 1, 3, 6, 7], True, True, False),
                ([3, 9, 3, 6, 7], True, False, True), ([3, 6, 3, 6, 7], True, True, True),
                ([3, 7, 3, 6, 7], True, False, True), ([3, 3, 3, 3, 3], True, True, True),
                ([3, 1, 3, 2, 7], False, False, False), ([3, 5, 3, 6, 2], False, False, False),
                ([3, 5, 2, 6, 7], False, False, False), ([3, 3, 9, 3, 3], True, True, True)):
            found = tuple(self.fits(kind, keys, 1) for kind in ("either", "above", "below"))
            self.assertEqual(found, (either, above, below), keys)

    def test_tree_looks_at_the_trees_of_the_children_alone(self):
        keys = [9, 8, 0, 7, 3, 1, 0, 7, 7, 3, 4]
        self.assertTrue(self.fits("tree", keys, 1))
        self.assertTrue(self.fits("tree", keys, 3))
        self.assertFalse(self.fits("tree", keys, 0))
        self.assertFalse(self.fits("tree", [9, 8, 0, 7, 3, 1, 0, 7, 6, 3, 4], 1))
        self.assertTrue(self.fits("tree", [9, 8, 0, 7, 3, 1, 0, 7, 6, 3, 4], 2))

    def test_all_lists_of_few_items(self):
        for kind in KINDS:
            for width, count, keys in ((2, 4, 3), (3, 5, 2), (2, 6, 2)):
                given = (0, 99) if kind in GIVEN else None
                for start in first_places(kind, count):
                    edges = edges_of_kind(kind, width, count, start)
                    for number in range(keys ** count):
                        row = [number // keys ** place % keys for place in range(count)]
                        right = all(row[low] <= row[high] for low, high in edges)
                        told = start if kind in STARTED else None
                        self.assertEqual(self.fits(kind, row, told, given, width), right, (kind, width, row, told))


class TestRefusals(unittest.TestCase):

    def test_values_that_are_no_items(self):
        for value in VALUES + ([1, 2], (1, 2, 3), (1,), (True, 2), (1, False), (1.0, 2), (1, "2"), (None, 1), ((1, 2),)):
            for ahead in ([], [(1, 1)], [(1, 1), (1, 2)]):
                error = error_of(play, bare("take"), ahead + [value, (1, 5), value])
                self.assertEqual((error.__class__, getattr(error, "index", None)), (BadItem, len(ahead)))

    def test_marks_that_stand_already(self):
        for items, index in (
                ([(1, 1), (2, 1)], 1), ([(1, 1), (2, 2), (3, 1), (3, 2)], 2), ([(1, 1), (1, 1)], 1),
                ([(1, 1), (2, 2), (3, 3), (0, 2)], 3)):
            error = error_of(play, bare("take"), items)
            self.assertEqual((error.__class__, error.index), (BadItem, index))

    def test_the_start(self):
        items = [(1, 1), (2, 2)]
        for kind in STARTED:
            for value in VALUES + (-1, 2, "0", (0,), [0]):
                error = error_of(play, bare(kind), items, value)
                if value.__class__ is int and value == 0:
                    self.assertIsNone(error)
                else:
                    self.assertEqual((error.__class__, error.what), (BadCase, "start"))
            self.assertIsNone(error_of(play, bare(kind), items, 0))
            self.assertIsNone(error_of(play, bare(kind), items, 1))
        for kind in ("put", "take", "top"):
            given = (5, 5) if kind in GIVEN else None
            for value in VALUES[1:]:
                error = error_of(play, bare(kind), items, value, given)
                self.assertEqual((error.__class__, error.what), (BadCase, "start"))

    def test_the_given_item(self):
        items = [(1, 1), (2, 2)]
        for kind in GIVEN:
            for value in VALUES + ((1, 1), (5, 2), [5, 5], (5, 5, 5), (5, True), (True, 5)):
                error = error_of(play, bare(kind), items, None, value)
                self.assertEqual((error.__class__, error.what), (BadCase, "given"))
            self.assertIsNone(error_of(play, bare(kind), items, None, (2, 5)))
        for kind in ("take",) + STARTED:
            for value in VALUES[1:] + ((5, 5),):
                error = error_of(play, bare(kind), items, 0 if kind in STARTED else None, value)
                self.assertEqual((error.__class__, error.what), (BadCase, "given"))

    def test_the_list(self):
        for kind, items, start, given in (
                ("take", [], None, None), ("top", [], None, (1, 1)), ("take", [(2, 1), (1, 2)], None, None),
                ("put", [(2, 1), (1, 2)], None, (1, 3)), ("out", [(2, 1), (1, 2)], 1, None),
                ("above", [(2, 1), (1, 2)], 0, None), ("tree", [(0, 1), (2, 2), (0, 3), (1, 4)], 0, None)):
            error = error_of(play, bare(kind), items, start, given)
            self.assertEqual((error.__class__, error.what), (BadCase, "items"), kind)

    def test_two_and_three_at_once(self):
        wrong = [(2, 1), (1, 2)]
        for items, start, given, kind, what in (
                ([(1, 1), 7], 9, 9, "take", None), ([(1, 1), (1, 1)], "x", None, "out", None),
                (wrong, 9, 9, "take", "start"), (wrong, True, (1, 1), "out", "start"), (wrong, None, 9, "take", "given"),
                (wrong, None, (1, 1), "put", "given"), (wrong, 1, 9, "out", "given"), ([], 0, 9, "tree", "start"),
                ([], None, [1, 1], "top", "given"), (wrong, 9, None, "put", "start"), (wrong, None, None, "put", "given"),
                ([(1, 1)], 0, None, "top", "start")):
            error = error_of(play, bare(kind), items, start, given)
            if what is None:
                self.assertEqual((error.__class__, error.index), (BadItem, 1))
            else:
                self.assertEqual((error.__class__, error.what), (BadCase, what), (kind, items, start, given))
            self.assertRaises(HeapError, play, bare(kind), items, start, given)

    def test_a_refusal_changes_nothing(self):
        items = [(2, 1), (1, 2)]
        self.assertRaises(BadCase, play, Code("take", 2, "trade"), items)
        self.assertEqual(items, [(2, 1), (1, 2)])

    def test_small_cases_are_taken(self):
        for kind in KINDS:
            for items, start, given in cases(kind, 3, 3, 2):
                self.assertEqual(play(bare(kind, 3), items, start, given).left, items)


if __name__ == "__main__":
    unittest.main()
