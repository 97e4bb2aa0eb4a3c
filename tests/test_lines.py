"""Points [8], [9] and [10]: which lines and which parts of tests may stand at which place."""

import itertools
import unittest

from tests.asking import wrong

TOP_WORDS = (
    "tell", "grab", "grab last", "grab given", "lay", "longer", "shorter", "trade", "to start", "note", "quit",
)
LOOP_WORDS = ("go", "pull", "swap", "lay", "note", "note mate", "stop", "quit")
PICKS = ("pick 1", "pick 2", "pick 3", "pick 4")

# Each place: the lines ahead of it, the lines that close it, and the way of its loop.
PLACES = {
    "top": (["note"], [], "top"),
    "side": (["if inside"], ["end"], "top"),
    "other side": (["if inside", "else"], ["end"], "top"),
    "behind a loop": (["down inside", "end"], [], "top"),
    "down": (["down inside"], ["end"], "down"),
    "down side": (["down inside", "if inside"], ["end", "end"], "down"),
    "down other side": (["down inside", "if inside", "else"], ["end", "end"], "down"),
    "down in a side": (["if inside", "down inside"], ["end", "end"], "down"),
    "up": (["up inside"], ["end"], "up"),
    "up side": (["up inside", "if inside"], ["end", "end"], "up"),
    "up in a side": (["if inside", "else", "up inside"], ["end", "end"], "up"),
}
# Each place of a test: the lines ahead of it, its word, and whose names it knows.
TESTS = {
    "if at the top": ([], "if", "top"),
    "if in an if": (["if inside"], "if", "top"),
    "if behind a loop": (["up inside", "end"], "if", "top"),
    "if in down": (["down inside"], "if", "down"),
    "if in an if in down": (["down inside", "if inside"], "if", "down"),
    "if in up": (["up inside"], "if", "up"),
    "down": ([], "down", "down"),
    "down in an if": (["if inside"], "down", "down"),
    "up": ([], "up", "up"),
    "up in an else": (["if inside", "else"], "up", "up"),
}


def bad_line(lines, width=2):
    """The line that BadLine tells for the lines, or None for a text without one."""
    found = wrong("take", *lines, width=width)
    return found[1] if found and found[0] == "BadLine" else None


def words_of(way, width):
    """The lines without a test that may stand there."""
    if way == "top":
        return TOP_WORDS
    return LOOP_WORDS + (PICKS[:width] if way == "down" else ())


def sides_of(way, width):
    """What a comparison may name there."""
    kids = tuple(f"kid {number}" for number in range(1, width + 1))
    return {"top": ("hand", "at", "given"), "up": ("hand", "at", "mate"), "down": ("hand", "at", "mate") + kids}[way]


class TestWords(unittest.TestCase):

    def check(self, place, line, right, width=2):
        ahead, behind, _ = PLACES[place]
        with self.subTest(place=place, line=line, width=width):
            self.assertEqual(bad_line(ahead + [line] + behind, width), None if right else len(ahead) + 1)

    def test_each_word_at_each_place(self):
        lines = {*TOP_WORDS, *LOOP_WORDS, *PICKS}
        for place, (_, _, way) in PLACES.items():
            for width in (2, 3, 4):
                for line in sorted(lines):
                    self.check(place, line, line in words_of(way, width), width)

    def test_words_that_stand_nowhere(self):
        for place in PLACES:
            for line in (
                    "", " ", "grab mate", "grab hand", "lay last", "tell 1", "to", "start", "to  start", "note kid",
                    "pick", "pick 0", "pick 5", "pick 12", "pick 1 2", "pick one", "pick +1", "pick 01", "pick mate",
                    "go 1", "go up", "pull 1", "swap 1", "mate", "Tell", "LAY", "stop it", "quit 1", "shorter 1",
                    "while inside", "elif inside", "for", "pass", "else if", "end if", "endif", "note mate mate"):
                self.check(place, line, False)

    def test_blanks(self):
        for place, (_, _, way) in PLACES.items():
            for line in words_of(way, 2):
                self.check(place, " " + line, False)
                self.check(place, line + " ", False)
                if " " in line:
                    self.check(place, line.replace(" ", "  "), False)
                    self.check(place, line.replace(" ", ""), False)

    def test_a_line_feed_at_the_end(self):
        self.assertEqual(bad_line(["note", ""]), 2)
        self.assertEqual(bad_line(["down inside", "end", ""]), 3)
        self.assertEqual(bad_line(["", "note"]), 1)
        self.assertEqual(bad_line(["note", "", "note"]), 2)
        self.assertEqual(bad_line(["", ""]), 1)
        self.assertEqual(bad_line([" "]), 1)

    def test_the_first_line_that_is_none_is_told(self):
        self.assertEqual(bad_line(["note", "go", "note", "stop"]), 2)
        self.assertEqual(bad_line(["up inside", "pick 1", "tell"]), 2)
        self.assertEqual(bad_line(["if inside", "nonsense"]), 2)


class TestBlocks(unittest.TestCase):

    def test_right_blocks(self):
        for lines in (
                ["if inside", "end"], ["if inside", "else", "end"], ["down inside", "end"], ["up inside", "end"],
                ["if inside", "if inside", "else", "end", "else", "end"],
                ["if inside", "else", "if inside", "else", "end", "end"],
                ["if inside", "down inside", "end", "else", "up inside", "end", "end"],
                ["down inside", "if inside", "if inside", "stop", "else", "end", "else", "quit", "end", "end"],
                ["up inside", "if inside", "end", "if inside", "else", "end", "end"]):
            with self.subTest(lines):
                self.assertIsNone(wrong("take", *lines))

    def test_else_and_end_where_nothing_is_open(self):
        for line in ("else", "end"):
            self.assertEqual(bad_line([line]), 1)
            self.assertEqual(bad_line(["note", line]), 2)
            self.assertEqual(bad_line(["if inside", "end", line]), 3)
            self.assertEqual(bad_line(["down inside", "end", line]), 3)
            self.assertEqual(bad_line(["down inside", "if inside", "end", "end", line]), 5)

    def test_else_stands_once_and_for_an_if(self):
        self.assertEqual(bad_line(["if inside", "else", "else", "end"]), 3)
        self.assertEqual(bad_line(["if inside", "else", "note", "else", "end"]), 4)
        self.assertEqual(bad_line(["if inside", "if inside", "else", "else", "end", "end"]), 4)
        self.assertEqual(bad_line(["down inside", "else", "end"]), 2)
        self.assertEqual(bad_line(["up inside", "else", "end"]), 2)
        self.assertEqual(bad_line(["if inside", "down inside", "else", "end", "end"]), 3)
        self.assertEqual(bad_line(["down inside", "if inside", "else", "else", "end", "end"]), 4)

    def test_a_missing_end_is_told_behind_the_last_line(self):
        for ahead, behind, _ in PLACES.values():
            if behind:
                with self.subTest(ahead):
                    self.assertEqual(bad_line(ahead), len(ahead) + 1)
                    self.assertEqual(bad_line(ahead + ["lay"]), len(ahead) + 2)
                    self.assertEqual(bad_line(ahead + ["lay"] + behind[1:]), len(ahead) + len(behind) + 1)
        self.assertEqual(bad_line(["down inside", "if inside", "end"]), 4)
        self.assertEqual(bad_line(["if inside", "else"]), 3)
        self.assertEqual(bad_line(["note"] * 59 + ["if inside"]), 61)

    def test_no_loop_stands_within_a_loop(self):
        for place, (ahead, behind, way) in PLACES.items():
            for word in ("down", "up"):
                with self.subTest(place=place, word=word):
                    lines = ahead + [word + " inside", "end"] + behind
                    self.assertEqual(bad_line(lines), None if way == "top" else len(ahead) + 1)

    def test_else_and_end_are_single_words(self):
        for line in ("else ", " else", "end ", " end", "else inside", "end if"):
            self.assertEqual(bad_line(["if inside", line, "end"]), 2)

    def test_places_are_right_again_behind_a_block(self):
        self.assertEqual(bad_line(["down inside", "pick 1", "end", "pick 1"]), 4)
        self.assertEqual(bad_line(["up inside", "go", "end", "go"]), 4)
        self.assertEqual(bad_line(["if inside", "down inside", "go", "end", "tell", "go", "end"]), 6)
        self.assertEqual(bad_line(["up inside", "end", "down inside", "pick 1", "end"]), None)
        self.assertEqual(bad_line(["down inside", "end", "up inside", "pick 1", "end"]), 4)


class TestParts(unittest.TestCase):

    def check(self, place, test, right, width=2):
        ahead, word, _ = TESTS[place]
        still_open = len(ahead) - ahead.count("else") - 2 * ahead.count("end")
        lines = ahead + [f"{word} {test}", "end"] + ["end"] * still_open
        with self.subTest(place=place, test=test, width=width):
            self.assertEqual(bad_line(lines, width), None if right else len(ahead) + 1)

    def test_each_comparison_at_each_place(self):
        names = ("hand", "at", "mate", "given", "kid 1", "kid 2", "kid 3", "kid 4", "kid 5", "kid", "last", "1")
        for place, (_, _, way) in TESTS.items():
            for width in (2, 3, 4):
                known = sides_of(way, width)
                for left, right in itertools.product(names, repeat=2):
                    held = left in known and right in known and left != right
                    for sign in ("<", "<="):
                        self.check(place, f"{left} {sign} {right}", held, width)

    def test_each_has_at_each_place(self):
        for place, (_, _, way) in TESTS.items():
            for width in (2, 3, 4):
                for number in range(6):
                    for behind in ("", " less", " more"):
                        held = way == "down" and 1 <= number <= width
                        self.check(place, f"has {number}{behind}", held, width)
                        self.check(place, f"not has {number}{behind}", held, width)

    def test_parts_for_all_places(self):
        for place in TESTS:
            for test in (
                    "inside", "below root", "below start", "not inside", "not below root", "not below start",
                    "hand < at", "not hand <= at", "at < hand and inside", "inside and inside",
                    "not inside and hand < at and not at <= hand and below root and below start"):
                self.check(place, test, True)

    def test_parts_of_one_test_are_each_asked_for(self):
        for place, (_, _, way) in TESTS.items():
            self.check(place, "inside and has 1 and hand < at", way == "down")
            self.check(place, "hand < at and not mate < at", way != "top")
            self.check(place, "inside and not given < at", way == "top")
            self.check(place, "kid 1 < hand and inside", way == "down")

    def test_what_is_no_test(self):
        for place in TESTS:
            for test in (
                    "", " ", "not", "and", "inside and", "and inside", "inside and and inside", "inside inside",
                    "not not inside", "notinside", "inside or inside", "Inside", "below", "root", "below mate",
                    "hand", "<", "hand <", "< at", "hand at", "hand < at <", "hand < at < hand", "hand < < at",
                    "hand > at", "hand >= at", "hand == at", "hand = at", "hand<at", "hand <at", "at < not hand",
                    "hand < at and", "has", "has one", "has 1 less more", "has 1 least", "has less", "has 12",
                    "has 1 1", "kid 1", "kids 1 < at", "mate 1 < at", "hand < at 1",
                    "kid 1 < kid 12", "kid 1 2 < at", "kid 01 < at", "1 < 2", "hand < 1",
                    "at < start", "(inside)", "inside,", "true", "not", "not and inside"):
                self.check(place, test, False)

    def test_blanks_in_tests(self):
        for place in TESTS:
            for test in (
                    " inside", "inside ", "below  root", "not  inside", "hand  < at", "hand <  at", "hand < at ",
                    "inside  and inside", "inside and  inside", " not inside", "has  1", "has 1 ", "has 1  less"):
                self.check(place, test, False)

    def test_a_test_is_needed(self):
        for word in ("if", "down", "up"):
            self.assertEqual(bad_line([word, "end"]), 1)
            self.assertEqual(bad_line([word + " ", "end"]), 1)
        self.assertEqual(bad_line(["down inside", "if", "end", "end"]), 2)


if __name__ == "__main__":
    unittest.main()
