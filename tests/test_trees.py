"""Points [24] and [25] for the walks: the positions of all sizes against those of many single sizes, these against places."""

import random
import unittest

from heapcode.shapes import GOAL, MANY, WAY
from heapcode.trees import AnyTree, OneTree


def told(tree, position):
    """What plays can tell at the position, on lists of two lengths; for top the list has one length only."""
    root, bits, reach, place = tree.site_at(position)
    assert place == 0
    return root, bits, max(reach, 0) if tree.kind == "top" else reach


def paths(tree, position, width, levels):
    """All that can be told on the ways down from a position."""
    here = told(tree, position)
    found = {(here,)}
    if levels:
        for way in tree.ways_from(position):
            for number in range(1, min(max(here[2], 0), width) + 1):
                for kid in tree.kids(position, way, number):
                    found |= {(here, way, number) + path for path in paths(tree, kid, width, levels - 1)}
    return found


class TestAnyTree(unittest.TestCase):

    def check(self, kind, width, sizes, levels):
        """Both lengths are told at once, as two codes may look at lists of two lengths."""
        single = set()
        for size in range(1, sizes):
            tree = OneTree(kind, width, size)
            single |= {path for start in tree.starts() for path in paths(tree, start, width, levels)}
        tree = AnyTree(kind, width)
        self.assertEqual(single, {path for start in tree.starts() for path in paths(tree, start, width, levels)})

    def test_take(self):
        self.check("take", 2, 600, 5)
        self.check("take", 3, 1200, 4)
        self.check("take", 4, 1400, 3)

    def test_top(self):
        self.check("top", 2, 300, 5)
        self.check("top", 3, 1200, 4)
        self.check("top", 4, 1400, 3)

    def test_put(self):
        for width in (2, 3, 4):
            tree = AnyTree("put", width)
            for size in range(60):
                one = OneTree("put", width, size)
                position, = one.starts()
                self.assertIn(one.site_at(position), [tree.site_at(start) for start in tree.starts()])
                while not one.site_at(position)[0]:
                    position, = one.parents(position)
                    self.assertIn(one.site_at(position), [tree.site_at(above) for above in tree.parents(None)])
                self.assertEqual(position, (0, 0))


class TestOneTree(unittest.TestCase):

    def check(self, kind, width, size, place, position, tree):
        goal = size - 1 if kind == "take" else size
        reach = goal - width * place
        line = [goal]
        while line[-1]:
            line.append((line[-1] - 1) // width)
        bits = (WAY if place in line else 0) | (GOAL if place == goal else 0) if kind == "take" else 0
        where = (kind, width, size, place)
        self.assertEqual(tree.site_at(position), (place == 0, bits, MANY if reach > width + 1 else max(reach, -1), 0), where)
        kids = [width * place + number for number in range(1, width + 1)]
        onward = [kid - width * place for kid in kids if kind == "take" and kid in line and reach > width]
        self.assertEqual(tree.ways_from(position), onward or [0], where)
        return [kid for kid in kids if kid <= goal]

    def test_all_places(self):
        for kind in ("take", "top"):
            for width in (2, 3, 4):
                for size in range(1, 100):
                    tree = OneTree(kind, width, size)
                    waiting = [(0, tree.starts()[0])]
                    while waiting:
                        place, position = waiting.pop()
                        for kid in self.check(kind, width, size, place, position, tree):
                            waiting.append((kid, tree.kids(position, 0, kid - width * place)[0]))

    def test_places_of_60_figures(self):
        chance = random.Random(61)
        for width in (2, 3, 4):
            for _ in range(40):
                size = chance.randrange(10 ** 59, 10 ** 60)
                tree = OneTree("take", width, size)
                place, position = 0, tree.starts()[0]
                while width * place + 1 < size:
                    kids = self.check("take", width, size, place, position, tree)
                    kid = chance.choice(kids + [line for line in kids if line in tree.line])
                    position, = tree.kids(position, 0, kid - width * place)
                    place = kid

    def test_positions_are_few(self):
        for size in (10 ** 60, 2 ** 200 - 1, 2 ** 200):
            tree = OneTree("take", 2, size)
            level = set(tree.starts())
            while level:
                self.assertLessEqual(len(level), 7)
                level = {
                    kid for position in level for number in (1, 2) if tree.site_at(position)[2] >= number
                    for kid in tree.kids(position, 0, number)}


if __name__ == "__main__":
    unittest.main()
