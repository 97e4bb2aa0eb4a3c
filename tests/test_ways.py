"""Point [11] for many texts: the package against the plain walk along one way after the other."""

import itertools
import random
import unittest

from tests.asking import KINDS, wrong
from tests.plain_ways import least_break

PLAIN = (
    "tell", "grab", "grab last", "grab given", "lay", "longer", "shorter", "trade", "to start", "note", "quit",
)
DOWN = ["down inside", "swap", "end"]
UP = ["up inside", "end"]
SWAPPING = ["up inside", "if inside", "swap", "end", "swap", "end"]


def made_text(chance, depth, usual):
    """A text of right lines; the usual words come more often than others."""
    lines = []
    for _ in range(chance.randrange(1, 5 if depth else 7)):
        draw = chance.random()
        if draw < 0.22:
            lines += chance.choice((DOWN, UP, SWAPPING))
        elif draw < 0.40 and depth < 3:
            lines.append(chance.choice(("if inside", "if inside", "if inside", "if given < at")))
            lines += made_text(chance, depth + 1, usual)
            if chance.random() < 0.5:
                lines += ["else"] + made_text(chance, depth + 1, usual)
            lines.append("end")
        elif draw < 0.48:
            lines.append(chance.choice(PLAIN))
        else:
            lines.append(chance.choice(usual))
    return lines


class TestWays(unittest.TestCase):

    def check(self, kind, lines):
        line = least_break(kind, lines)
        found = wrong(kind, *lines)
        self.assertEqual(found, None if line is None else ("Refused", line), (kind, lines))
        return line

    def test_all_sequences_of_few_lines(self):
        blocks = [[word] for word in PLAIN] + [DOWN, UP, SWAPPING, ["if given < at", "end"]]
        for kind in ("put", "take", "top", "out", "below"):
            for count in range(4):
                for chosen in itertools.product(blocks, repeat=count):
                    self.check(kind, sum(chosen, []))

    def test_all_sequences_around_loops(self):
        blocks = [["grab"], ["trade"], ["shorter"], ["to start"], ["quit"], DOWN, UP, SWAPPING]
        for kind in ("take", "out", "either"):
            for chosen in itertools.product(blocks, repeat=5):
                self.check(kind, sum(chosen, []))

    def test_texts_with_ifs(self):
        chance = random.Random(11)
        kept = 0
        for _ in range(12000):
            usual = chance.choice((("lay", "note"), ("to start", "grab", "lay"), ("shorter", "lay", "quit"), PLAIN))
            lines = made_text(chance, 0, usual)
            if len(lines) <= 60:
                for kind in chance.sample(KINDS, 3):
                    kept += self.check(kind, lines) is None
        self.assertGreater(kept, 2000)


if __name__ == "__main__":
    unittest.main()
