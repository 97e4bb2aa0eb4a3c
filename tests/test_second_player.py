"""play against a plain second player, on many codes and all their small lists."""

import random
import unittest

from heapcode.codes import Code
from heapcode.play import play
from tests.second import Second, broken_by, read
from tests.small_lists import cases, first_place
from tests.texts import ONE, LEAST, UP, right_codes, slipped_codes
from tests.wild_texts import wild_codes


class TestAgainstTheSecondPlayer(unittest.TestCase):

    def check(self, code, nodes, items, start, given):
        place = first_place(code.kind, items, start)
        second = Second(code.width, nodes, items, place, given)
        found = play(code, items, start, given)
        where = (code.kind, code.width, code.text, items, start, given)
        self.assertEqual(
            (found.ended, found.left, found.told, found.compares),
            (second.ended, tuple(second.things), second.told, second.compares), where)
        self.assertEqual(found.lines(), tuple(sorted(second.lines)), where)
        self.assertEqual(found.sides(), tuple(sorted(second.sides)), where)
        self.assertEqual(found.stations(), tuple(second.stations), where)
        self.assertEqual(found.table(), {thing[1]: place for thing, place in second.table.items()}, where)
        self.assertEqual(found.broken, broken_by(code.kind, code.width, items, place, given, second), where)
        return found.ended

    def check_all(self, codes, most, keys):
        ended = {"done": 0, "beyond": 0, "endless": 0}
        for code in codes:
            nodes = read(code.text)
            for count in range(most + 1):
                for case in cases(code.kind, code.width, count, keys):
                    ended[self.check(code, nodes, *case)] += 1
        return ended

    def test_codes_of_the_document(self):
        codes = [Code("put", 2, UP), Code("take", 2, LEAST), Code("take", 2, ONE)]
        self.assertEqual(self.check_all(codes, 6, 3)["beyond"], 0)

    def test_right_codes(self):
        for width in (2, 3, 4):
            for notes in (False, True):
                ended = self.check_all(right_codes(width, notes), 5, 2)
                self.assertEqual((ended["beyond"], ended["endless"]), (0, 0))

    def test_codes_with_slips(self):
        ended = self.check_all(slipped_codes(random.Random(1), 150, (2, 2, 3, 4)), 4, 2)
        self.assertGreater(min(ended.values()), 50)

    def test_wild_codes(self):
        ended = self.check_all(wild_codes(random.Random(2), 250, (2, 2, 3, 4)), 4, 2)
        self.assertGreater(min(ended.values()), 50)

    def test_longer_lists(self):
        chance = random.Random(3)
        for code in slipped_codes(chance, 60) + wild_codes(chance, 60):
            nodes = read(code.text)
            for count in (9, 14, 31):
                keys = sorted(chance.randrange(count) for _ in range(count))
                items = tuple((key, 100 - place) for place, key in enumerate(keys))
                start = None if code.kind in ("put", "take", "top") else chance.randrange(count)
                given = (chance.randrange(count), 500) if code.kind in ("put", "top") else None
                self.check(code, nodes, items, start, given)


if __name__ == "__main__":
    unittest.main()
