"""The search: for lists of one size against all plays at once, and for lists of all sizes against one size each."""

import random
import unittest

from heapcode.answers import ASKED, least_size
from heapcode.codes import Code
from heapcode.keys import make_case
from heapcode.play import play
from heapcode.search import Search
from heapcode.shapes import AllSizes
from heapcode.sizes import OneSize
from heapcode.uses import case_for_line
from tests.symbols import events
from tests.texts import LEAST, ONE, UP, right_codes, slipped_codes
from tests.wild_texts import wild_codes


def found_by(code, shape):
    """All that searches over the lists of the shape find."""
    found = {}
    for aspect, promises in ASKED.items():
        search = Search(code, shape, aspect, promises)
        search.run()
        found.update(search.found)
    return found


def is_met(event, played):
    """Whether the play meets the event."""
    if event[0] == "line":
        return event[1] in played.lines()
    if event[0] == "side":
        return event[1:] in played.sides()
    return event[1] in played.stations() if event[0] == "station" else event[0] in played.broken


class TestOneSize(unittest.TestCase):

    def check(self, codes, most):
        for code in codes:
            for count in range(most + 1):
                found = found_by(code, OneSize(code.kind, code.width, count))
                where = (code.kind, code.width, code.text, count)
                self.assertEqual(set(found), events(code, count), where)
                for event, (start, facts) in found.items():
                    case = make_case(code, count, start, facts)
                    self.assertEqual(len(case[0]), count)
                    self.assertTrue(is_met(event, play(code, *case)), (where, event, case))

    def test_codes_of_the_document(self):
        self.check([Code("put", 2, UP), Code("take", 2, LEAST), Code("take", 2, ONE)], 12)

    def test_right_codes(self):
        self.check(right_codes(2, True), 7)
        self.check(right_codes(3, False), 7)

    def test_codes_with_slips(self):
        self.check(slipped_codes(random.Random(11), 150, (2, 2, 3, 4)), 6)
        self.check(slipped_codes(random.Random(12), 25), 9)

    def test_wild_codes(self):
        self.check(wild_codes(random.Random(13), 350, (2, 2, 3, 4)), 6)
        self.check(wild_codes(random.Random(14), 40), 8)

    def test_told_items(self):
        texts = ("trade\ntell\ntrade\nshorter", "tell\ntrade\ntell\nshorter", "grab last\nlay\ntell\nshorter",
                 "tell\ntrade\nshorter\ndown has 1\npick 1\nif mate < at\nswap\ngo\nelse\nstop\nend\nend",
                 "trade\ntell\ntrade\nshorter\ndown has 1\npick 1\ngo\nend")
        self.check([Code(kind, 2, text) for kind in ("take", "out") for text in texts], 7)


class TestAllSizes(unittest.TestCase):

    def check(self, codes, sizes):
        """What is met on lists of some size is told, with no more levels; what is told is met on some list."""
        for code in codes:
            told = found_by(code, AllSizes(code.kind, code.width))
            missing = dict(told)
            where = (code.kind, code.width, code.text)
            for count in range(sizes[code.width][1]):
                if not missing and count > sizes[code.width][0]:
                    break
                for event in found_by(code, OneSize(code.kind, code.width, count)):
                    self.assertIn(event, told, where)
                    self.assertLessEqual(least_size(code, told[event]), count, where)
                    missing.pop(event, None)
            self.assertEqual(missing, {}, where)

    def test_right_codes(self):
        sizes = {2: (12, 40), 3: (14, 50)}
        self.check(right_codes(2, True), sizes)
        self.check(right_codes(3, False), sizes)

    def test_codes_with_slips(self):
        self.check(slipped_codes(random.Random(21), 150), {2: (9, 140), 3: (14, 130)})

    def test_wild_codes(self):
        self.check(wild_codes(random.Random(22), 250), {2: (9, 140), 3: (14, 130)})

    def test_width_4(self):
        self.check(slipped_codes(random.Random(23), 12, (4,)), {4: (23, 350)})


class TestLargeLeastCases(unittest.TestCase):

    def test_several_levels_in_one_round(self):
        # The line 8 is played three levels above the start, but not at the place 0: so on four levels below it.
        code = Code("above", 2, "up below root\ngo\nif below root\ngo\nif below root\ngo\nif below root\nnote\nend\nend\nend\nend")
        found = found_by(code, AllSizes("above", 2))
        self.assertEqual(found[("line", 8)], 3)
        self.assertNotIn(("line", 8), found_by(code, OneSize("above", 2, 15)))
        self.assertIn(("line", 8), found_by(code, OneSize("above", 2, 16)))
        case = case_for_line(code, 8)
        self.assertEqual(len(case[0]), 16)
        self.assertIn(8, play(code, *case).lines())

    def test_least_sizes(self):
        for kind, more in (("put", 0), ("take", 1), ("tree", 1)):
            for width, firsts in ((2, (0, 1, 3, 7, 15)), (3, (0, 1, 4, 13, 40)), (4, (0, 1, 5, 21, 85))):
                code = Code(kind, width, "")
                self.assertEqual([least_size(code, levels) for levels in range(5)], [first + more for first in firsts])


if __name__ == "__main__":
    unittest.main()
