"""Point [12]: the line at which a play goes beyond changes nothing of what was there ahead of it."""

import random
import unittest

from heapcode.codes import Code
from heapcode.play import play
from tests.second import Second, read
from tests.small_lists import cases, first_place
from tests.texts import code_or_none

ITEMS = ((1, 10), (2, 11), (3, 12))
COMMON = ("tell", "tell", "grab", "lay", "note")
WORDS = {
    "take": COMMON + ("grab last", "shorter", "trade"), "out": COMMON + ("grab last", "shorter", "trade"),
    "top": COMMON + ("grab given",), "put": COMMON + ("longer", "grab given"),
}


class TestTheLineThatGoesBeyond(unittest.TestCase):

    def seen(self, found):
        return (found.left, found.told, found.compares, found.table(), found.sides(), found.stations())

    def check(self, kind, ahead, line, items=ITEMS, start=None, given=None, behind=""):
        """The play is beyond at the line, and all is as behind the lines ahead of it."""
        text = "\n".join(ahead + [line])
        found = play(Code(kind, 2, text + behind), items, start, given)
        self.assertEqual(found.ended, "beyond", text)
        self.assertEqual(found.lines(), tuple(range(1, len(ahead) + 2)), text)
        opened = sum(row.startswith(("down", "up")) for row in ahead)
        before = play(Code(kind, 2, "\n".join(ahead + ["quit"] + ["end"] * opened)), items, start, given)
        self.assertEqual(before.ended, "done", text)
        self.assertEqual(self.seen(found), self.seen(before), text)

    def test_tell(self):
        self.check("take", ["tell", "shorter"], "tell", ITEMS[:1])
        self.check("out", ["tell", "shorter"], "tell", start=2)
        self.check("out", ["tell", "trade", "shorter"], "tell", start=2)
        self.check("put", [], "tell", given=(4, 13))

    def test_top_level(self):
        for line in ("grab", "lay", "note"):
            self.check("out", ["tell", "grab last", "note", "shorter"], line, start=2)
            self.check("put", ["grab given"], line, given=(4, 13))
        self.check("take", ["tell"], "lay")
        self.check("put", ["longer", "note"], "lay", given=(4, 13))
        self.check("out", ["tell", "grab last", "trade", "shorter"], "lay", start=2)

    def test_an_empty_list(self):
        # On no way is the list met empty by these words but by the first of them: `shorter` stands once.
        self.check("take", ["tell", "shorter"], "note", ITEMS[:1])
        self.check("put", ["grab given"], "lay", (), given=(4, 13))

    def test_loops(self):
        ahead = ["tell", "grab last", "down has 1"]
        for line in ("go", "pull", "swap", "note mate"):
            self.check("take", ahead, line, behind="\nend")
            self.check("take", ["tell", "down has 1", "pick 1", "swap", "note", "note mate", "go"], line, behind="\nend")
            self.check("take", ["tell", "down inside", "pick 2"], line, ITEMS[:2], behind="\nend")
            self.check("take", ["tell", "grab last", "up inside"], line, behind="\nend")
        self.check("take", ["tell", "down has 1"], "lay", behind="\nend")

    def test_tests(self):
        for part in ("hand < mate", "at < mate", "has 1 and at < kid 1 and mate < at"):
            found = play(Code("take", 2, f"tell\ngrab last\ndown {part}\ngo\nend"), ITEMS)
            self.assertEqual((found.ended, found.told, found.left, found.sides()), ("beyond", (1, 10), ITEMS, ()))
            self.assertEqual(found.compares, int("kid" in part))


class TestAgainstTheSecondPlayer(unittest.TestCase):

    def test_lines_of_the_top_level_in_all_orders(self):
        chance = random.Random(31)
        beyond = told = 0
        for _ in range(1500):
            kind = chance.choice(("take", "take", "out", "out", "put", "top"))
            lines = []
            for _ in range(chance.randint(2, 7)):
                word = chance.choice(WORDS[kind])
                lines += ["if inside", word, "end"] if chance.random() < 0.2 else [word]
            code = code_or_none(kind, 2, lines)
            if code is None:
                continue
            for count in range(4):
                for items, start, given in cases(kind, 2, count, 2):
                    second = Second(2, read(code.text), items, first_place(kind, items, start), given)
                    found = play(code, items, start, given)
                    where = (kind, code.text, items, start, given)
                    table = {thing[1]: place for thing, place in second.table.items()}
                    self.assertEqual((found.ended, found.told), (second.ended, second.told), where)
                    self.assertEqual((found.left, found.table()), (tuple(second.things), table), where)
                    beyond += found.ended == "beyond"
                    told += found.ended == "beyond" and found.told is not None and lines[found.lines()[-1] - 1] == "tell"
        self.assertGreater(beyond, 1000)
        self.assertGreater(told, 50)


if __name__ == "__main__":
    unittest.main()
