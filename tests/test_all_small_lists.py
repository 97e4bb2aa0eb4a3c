"""Verdicts and uses against plays on all small lists, keys that are equal among them."""

import random
import unittest

from heapcode.codes import Code
from heapcode.play import play
from heapcode.uses import all_stations, case_for_line, case_for_side, case_for_station, used_lines, used_sides
from heapcode.verdicts import kept, least_case
from tests.small_lists import cases
from tests.texts import LEAST, ONE, UP, right_codes, slipped_codes
from tests.wild_texts import wild_codes

PROMISES = ("inside", "ends", "items", "order", "told", "places")


class TestAllSmallLists(unittest.TestCase):

    def least_breaks(self, code, most, keys):
        """Plays all small cases; what is met is told. The fewest items with which each promise is broken."""
        lines, sides, stations = set(used_lines(code)), set(used_sides(code)), set(all_stations(code))
        least = {}
        for count in range(most + 1):
            for case in cases(code.kind, code.width, count, keys):
                found = play(code, *case)
                where = (code.kind, code.width, code.text, case)
                self.assertTrue(lines.issuperset(found.lines()), where)
                self.assertTrue(sides.issuperset(found.sides()), where)
                self.assertTrue(stations.issuperset(found.stations()), where)
                for promise in found.broken:
                    least.setdefault(promise, count)
        return least

    def check_verdicts(self, code, most, keys):
        least = self.least_breaks(code, most, keys)
        holding = kept(code)
        for promise in PROMISES:
            where = (code.kind, code.width, code.text, promise)
            case = least_case(code, promise)
            self.assertEqual(case is None, promise in holding, where)
            if case is None:
                self.assertNotIn(promise, least, where)
                continue
            self.assertIn(promise, play(code, *case).broken, where)
            # The least case itself may take more keys than the lists that were played.
            self.assertGreaterEqual(least.get(promise, most + 1), min(len(case[0]), most + 1), where)
            if keys > most:
                self.assertEqual(least.get(promise, most + 1), min(len(case[0]), most + 1), where)

    def check_uses(self, code):
        where = (code.kind, code.width, code.text)
        for line in used_lines(code):
            self.assertIn(line, play(code, *case_for_line(code, line)).lines(), where)
        for line, side in used_sides(code):
            self.assertIn((line, side), play(code, *case_for_side(code, line, side)).sides(), where)
        for station in all_stations(code):
            self.assertIn(station, play(code, *case_for_station(code, station)).stations(), where)

    def check(self, codes, most, keys):
        for code in codes:
            self.check_verdicts(code, most, keys)
            self.check_uses(code)

    def test_codes_of_the_document(self):
        self.check([Code("put", 2, UP), Code("take", 2, LEAST), Code("take", 2, ONE)], 6, 4)

    def test_right_codes(self):
        self.check(right_codes(2, True), 5, 3)
        self.check(right_codes(3, False), 4, 2)

    def test_codes_with_slips(self):
        # With so many keys as items all orders of so many items are there; the given one makes one more.
        self.check(slipped_codes(random.Random(5), 120, (2, 2, 3, 4)), 3, 4)
        self.check(slipped_codes(random.Random(6), 60), 5, 2)

    def test_wild_codes(self):
        self.check(wild_codes(random.Random(7), 160, (2, 2, 3, 4)), 3, 4)
        self.check(wild_codes(random.Random(8), 80), 4, 3)


if __name__ == "__main__":
    unittest.main()
