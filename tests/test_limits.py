"""Point [11]: each sentence, kept and broken, with the line that is told."""

import unittest

from tests.asking import KINDS, SETTLING, wrong

DOWN = ("down inside", "end")
UP = ("up inside", "end")
SWAP = ("up inside", "swap", "end")
IF = "if inside"
STARTING = ("out",) + SETTLING
OTHERS = ("put", "take", "top")


class TestLimits(unittest.TestCase):

    def kept(self, kind, *lines):
        with self.subTest(kind=kind, lines=lines):
            self.assertIsNone(wrong(kind, *lines))

    def broken(self, line, kind, *lines):
        with self.subTest(kind=kind, lines=lines):
            self.assertEqual(wrong(kind, *lines), ("Refused", line))


class TestLoops(TestLimits):

    def test_one_loop_of_each_way_at_most(self):
        for kind in KINDS:
            self.kept(kind, *DOWN)
            self.kept(kind, *UP)
            self.kept(kind, *DOWN, *UP)
            self.broken(3, kind, *DOWN, *DOWN)
            self.broken(3, kind, *UP, *UP)
            self.broken(5, kind, *DOWN, *UP, *DOWN)
            self.broken(5, kind, *DOWN, *UP, *UP)

    def test_the_ways_are_asked_one_by_one(self):
        for kind in KINDS:
            self.kept(kind, IF, *DOWN, "else", *DOWN, "end")
            self.kept(kind, IF, *UP, "else", *DOWN, "end")
            self.kept(kind, IF, *DOWN, "else", *DOWN, "end", *UP)
            self.broken(5, kind, IF, *DOWN, "end", *DOWN)
            self.broken(8, kind, IF, "else", IF, *DOWN, "end", "end", *DOWN)
            self.broken(4, kind, IF, *DOWN, *DOWN, "else", *DOWN, *DOWN, "end")

    def test_loops_behind_a_quit(self):
        for kind in KINDS:
            self.kept(kind, *DOWN, "quit", *DOWN)
            self.kept(kind, IF, *DOWN, "quit", "end", *DOWN)
            self.broken(7, kind, IF, *DOWN, "else", "quit", "end", *DOWN)

    def test_loops_are_passed_also_where_they_quit(self):
        for kind in KINDS:
            self.broken(4, kind, "down inside", "quit", "end", *DOWN)
            self.broken(4, kind, "down inside", "stop", "end", "tell")

    def test_down_behind_up_needs_to_start(self):
        for kind in STARTING:
            self.kept(kind, *UP, "to start", *DOWN)
            self.kept(kind, *UP, "lay", "to start", "grab", *DOWN)
            self.broken(3, kind, *UP, *DOWN)
            self.broken(5, kind, *UP, "lay", "note", *DOWN)
            self.broken(6, kind, *UP, IF, "to start", "end", *DOWN)
            self.kept(kind, *UP, IF, "to start", "else", "to start", "end", *DOWN)
            self.kept(kind, *UP, IF, "to start", "else", "quit", "end", *DOWN)
        for kind in OTHERS:
            self.broken(3, kind, *UP, *DOWN)
            self.broken(3, kind, *UP, "to start", *DOWN)

    def test_to_start_of_another_gap_does_not_help(self):
        self.broken(3, "out", *UP, *DOWN, "to start", *UP)
        self.broken(3, "out", *UP, *DOWN, "to start")
        self.broken(1, "out", "to start", *UP, *DOWN)


class TestTurns(TestLimits):

    def test_the_up_loop_of_a_turn_has_no_swap(self):
        for kind in KINDS:
            self.kept(kind, *SWAP)
            self.kept(kind, "down inside", "swap", "end", *UP)
            self.broken(4, kind, *DOWN, *SWAP)
            self.broken(5, kind, *DOWN, "lay", *SWAP)
            self.broken(6, kind, *DOWN, "up inside", "if inside", "note", "swap", "swap", "end", "swap", "end")
            self.broken(6, kind, *DOWN, "up inside", "if inside", "else", "swap", "end", "end")
            self.broken(5, kind, *DOWN, "up inside", "quit", "swap", "end")

    def test_behind_to_start_it_is_no_turn(self):
        for kind in STARTING:
            self.kept(kind, *DOWN, "to start", *SWAP)
            self.broken(7, kind, *DOWN, IF, "to start", "end", *SWAP)
            self.kept(kind, *DOWN, IF, "to start", "else", "quit", "end", *SWAP)

    def test_a_turn_on_one_way_alone(self):
        for kind in KINDS:
            self.broken(6, kind, IF, *DOWN, "end", *SWAP)
            self.kept(kind, IF, *DOWN, "else", *SWAP, "end")
            self.kept(kind, IF, *DOWN, "quit", "end", *SWAP)
            self.broken(8, kind, IF, *DOWN, "else", "note", "end", *SWAP)

    def test_a_swap_of_a_loop_ahead_is_none_of_the_turn(self):
        self.broken(10, "out", IF, *SWAP, "quit", "end", *DOWN, *SWAP)
        self.kept("out", *SWAP, "to start", "down inside", "swap", "end")


class TestPlacesOfLines(TestLimits):

    def test_what_may_stand_ahead_of_the_first_loop(self):
        for kind in KINDS:
            for line in ("tell", "grab", "lay", "note"):
                self.kept(kind, line)
                self.kept(kind, line, line, *DOWN)
                self.kept(kind, line, *UP)
            self.kept(kind, IF, "tell", "end", "quit")
            self.broken(1, kind, "to start")
            self.broken(1, kind, "to start", *DOWN)
            self.broken(2, kind, "tell", "to start", *UP, "to start", *DOWN)

    def test_what_may_stand_behind_the_last_loop(self):
        for kind in KINDS:
            for loop in (DOWN, UP):
                self.kept(kind, *loop, "lay", "note", IF, "lay", "else", "quit", "end", "note")
                for line in ("tell", "grab", "to start", "grab last", "grab given", "longer", "trade"):
                    self.broken(3, kind, *loop, line)
                    self.broken(5, kind, *loop, "lay", IF, line, "end")
            self.broken(5, kind, *DOWN, *UP, "tell")
            self.broken(5, kind, *DOWN, *UP, "grab")

    def test_what_may_stand_between_two_loops(self):
        for kind in KINDS:
            self.kept(kind, *DOWN, "lay", "note", IF, "lay", "else", "quit", "end", *UP)
            for line in ("tell", "grab", "grab last", "grab given", "longer", "trade"):
                self.broken(3, kind, *DOWN, line, *UP)
                self.broken(4, kind, *DOWN, IF, line, "end", *UP)

    def test_to_start_between_two_loops(self):
        for kind in STARTING:
            self.kept(kind, *DOWN, "to start", *UP)
            self.kept(kind, *DOWN, "note", "to start", "lay", *UP)
            self.kept(kind, *DOWN, IF, "to start", "else", "to start", "end", *UP)
            self.broken(4, kind, *DOWN, "to start", "to start", *UP)
            self.broken(6, kind, *DOWN, IF, "to start", "end", "to start", *UP)
        for kind in OTHERS:
            self.broken(3, kind, *DOWN, "to start", *UP)
            self.broken(4, kind, *DOWN, "lay", "to start", *UP)

    def test_grab_behind_to_start(self):
        for kind in STARTING:
            self.kept(kind, *DOWN, "to start", "grab", "lay", "grab", *UP)
            self.kept(kind, *UP, "to start", IF, "grab", "end", *DOWN)
            self.broken(3, kind, *DOWN, "grab", "to start", *UP)
            self.broken(6, kind, *DOWN, IF, "to start", "end", "grab", *UP)
            self.broken(7, kind, *DOWN, "to start", "grab", *UP, "grab")
            for line in ("grab last", "grab given", "tell"):
                self.broken(4, kind, *DOWN, "to start", line, *UP)

    def test_to_start_with_no_loop_behind(self):
        for kind in KINDS:
            self.broken(3, kind, *UP, "to start")
            self.broken(3, kind, *UP, "to start", "lay", "tell")
            self.broken(3, kind, *UP, "to start", "grab", "lay")
            self.broken(3, kind, *UP, "to start", "quit", *DOWN)
            self.broken(3, kind, *UP, "to start", IF, "quit", "end", *DOWN)
            self.broken(3, kind, *UP, "to start", IF, *DOWN, "end")
        for kind in STARTING:
            self.kept(kind, *UP, "to start", IF, *DOWN, "else", *DOWN, "quit", "end")
            self.broken(6, kind, *UP, "to start", *DOWN, "to start")

    def test_between_a_second_loop_and_a_third_one(self):
        for kind in STARTING:
            self.broken(6, kind, *DOWN, *UP, "to start", *DOWN)
            self.broken(6, kind, *DOWN, *UP, "lay", *DOWN)
            self.broken(7, kind, *DOWN, *UP, "to start", "grab", *UP)
            self.broken(6, kind, *DOWN, *UP, "to start", "to start", *UP)
            self.broken(7, kind, *UP, "to start", *DOWN, "to start", *UP)
            self.broken(5, kind, *DOWN, *UP, "to start", IF, *DOWN, "end")
            self.broken(5, kind, *DOWN, *UP, "grab", *DOWN)
            self.broken(4, kind, *DOWN, "to start", *DOWN)
        for kind in ("take", "out"):
            self.broken(5, kind, *DOWN, *UP, "shorter", *DOWN)
            self.broken(3, kind, *DOWN, "shorter", *DOWN)
        for kind in OTHERS:
            self.broken(5, kind, *DOWN, *UP, "to start", *DOWN)


class TestLonger(TestLimits):

    def test_for_put_alone(self):
        self.kept("put", "longer")
        self.kept("put", "longer", *UP)
        for kind in KINDS[1:]:
            self.broken(2, kind, "note", "longer")

    def test_once_on_each_way(self):
        self.broken(2, "put", "longer", "longer")
        self.broken(4, "put", IF, "longer", "end", "longer")
        self.kept("put", IF, "longer", "else", "longer", "end")
        self.kept("put", IF, "longer", "quit", "end", "longer")
        self.kept("put", "longer", "quit", "longer")
        self.broken(6, "put", IF, "longer", "quit", "else", "longer", "longer", "end")


class TestShorter(TestLimits):

    def test_for_take_and_out_alone(self):
        for kind in KINDS:
            if kind in ("take", "out"):
                self.kept(kind, "shorter")
                self.kept(kind, "shorter", *DOWN)
                self.kept(kind, *DOWN, "lay", "shorter", "lay")
                self.kept(kind, *DOWN, *UP, "shorter")
            else:
                self.broken(1, kind, "shorter")
                self.broken(3, kind, *DOWN, "shorter")

    def test_once_on_each_way(self):
        for kind in ("take", "out"):
            self.broken(2, kind, "shorter", "shorter")
            self.broken(4, kind, "shorter", *DOWN, "shorter")
            self.broken(4, kind, *DOWN, "shorter", "shorter")
            self.broken(6, kind, *DOWN, IF, "shorter", "end", "shorter")
            self.kept(kind, IF, "shorter", "else", *DOWN, "shorter", "end")
            self.kept(kind, *DOWN, IF, "shorter", "quit", "end", "shorter")

    def test_not_between_two_loops(self):
        for kind in ("take", "out"):
            self.broken(3, kind, *DOWN, "shorter", *UP)
            self.broken(4, kind, *DOWN, IF, "shorter", "end", *UP)
            self.broken(3, kind, *DOWN, "shorter", IF, *UP, "end")
            self.broken(3, kind, *DOWN, "shorter", IF, "quit", "end", *UP)
            self.kept(kind, *DOWN, IF, "shorter", "quit", "end", *UP)
            self.kept(kind, *DOWN, IF, "shorter", "else", *UP, "shorter", "end")
        self.broken(3, "out", *UP, "shorter", "to start", *DOWN)
        self.broken(4, "out", *UP, "to start", "shorter", *DOWN)

    def test_with_trade_it_stands_ahead_of_the_first_loop(self):
        for kind in ("take", "out"):
            self.kept(kind, "trade", "shorter", *DOWN)
            self.kept(kind, "trade", *DOWN, "lay", "note")
            self.kept(kind, "trade", "note", IF, "shorter", "end", *DOWN, *UP)
            self.kept(kind, "trade", "lay", "shorter", "tell")
            self.broken(4, kind, "trade", *DOWN, "shorter")
            self.broken(6, kind, "trade", *DOWN, *UP, "shorter")
            self.broken(6, kind, IF, "trade", "end", *DOWN, "shorter")
            self.kept(kind, IF, "trade", "shorter", *DOWN, "else", *DOWN, "shorter", "end")
            self.kept(kind, IF, "trade", "else", *DOWN, "end", "note")
            self.broken(6, kind, "trade", IF, *DOWN, "end", "shorter")
            self.kept(kind, "trade", IF, *DOWN, "quit", "end", "shorter")

    def test_behind_it_no_grab_last_and_no_trade(self):
        for kind in ("take", "out"):
            for line in ("grab last", "trade"):
                self.kept(kind, line, "shorter")
                self.kept(kind, line, line, "tell", "shorter")
                self.broken(2, kind, "shorter", line)
                self.broken(3, kind, "shorter", "lay", line, *DOWN)
                self.broken(4, kind, IF, "shorter", "end", line)
                self.kept(kind, IF, "shorter", "else", line, "end")
                self.kept(kind, IF, "shorter", "quit", "end", line)
            self.kept(kind, "shorter", "grab", "tell")


class TestForSomeKindsAlone(TestLimits):

    def test_grab_last_and_trade(self):
        for kind in KINDS:
            for line in ("grab last", "trade"):
                if kind in ("take", "out"):
                    self.kept(kind, line)
                    self.kept(kind, IF, line, "end", *UP)
                else:
                    self.broken(1, kind, line)
                    self.broken(2, kind, IF, line, "end")
                self.kept(kind, "quit", line)

    def test_grab_given(self):
        for kind in KINDS:
            if kind in ("put", "top"):
                self.kept(kind, "grab given", "lay", "grab given")
            else:
                self.broken(2, kind, "note", "grab given")
            self.kept(kind, "quit", "grab given")

    def test_given_in_tests(self):
        for kind in KINDS:
            for test in ("given < at", "at <= given", "inside and not hand < given", "given < hand and inside"):
                if kind in ("put", "top"):
                    self.kept(kind, "if " + test, "end")
                    self.kept(kind, *DOWN, "if " + test, "end", *UP)
                else:
                    self.broken(1, kind, "if " + test, "end")
                    self.broken(4, kind, *DOWN, "lay", "if " + test, "else", "end")
                    self.broken(3, kind, IF, "else", "if " + test, "end", "end")
                self.kept(kind, "quit", "if " + test, "end")
                self.kept(kind, IF, "quit", "if " + test, "end", "end")


class TestWhichLine(TestLimits):

    def test_the_least_line_of_all_ways(self):
        for kind in SETTLING:
            self.broken(2, kind, IF, "longer", "else", "shorter", "end")
            self.broken(4, kind, IF, "note", "else", "shorter", "end", "longer")
            self.broken(4, kind, IF, "quit", "end", "trade", "longer")

    def test_a_later_line_of_one_way_can_be_told_by_an_earlier_one(self):
        self.broken(4, "out", *DOWN, "to start", "tell", *UP, "tell")
        self.broken(3, "out", *DOWN, "to start", "tell", IF, *UP, "end")
        self.broken(4, "out", *DOWN, IF, "to start", "else", "tell", "end")
        self.broken(3, "out", *DOWN, "shorter", IF, "tell", "end", IF, *UP, "end")

    def test_what_stands_behind_a_quit_on_all_ways(self):
        for kind in KINDS:
            self.kept(kind, "quit", "to start", "longer", "shorter", "shorter", "trade", *UP, *DOWN, *SWAP)
            self.kept(kind, IF, "quit", "else", "quit", "end", "to start", *UP, *UP)
            self.kept(kind, *DOWN, IF, "quit", "else", IF, "quit", "else", "quit", "end", "end", *SWAP)
            self.broken(5, kind, IF, "quit", "else", "note", "to start", "end")


class TestManyWays(TestLimits):

    def test_ifs_behind_one_another(self):
        for kind in KINDS:
            self.kept(kind, *[IF, "end"] * 30)
            self.kept(kind, *[IF, "lay", "end"] * 20)
            self.kept(kind, *[IF, "else", "end"] * 20)
            self.broken(57, kind, *[IF, "end"] * 28, "to start")
            self.broken(60, kind, *[IF, "lay", "end"] * 19, *DOWN, "tell")

    def test_ifs_with_lines_that_count(self):
        self.broken(5, "put", *[IF, "longer", "end"] * 20)
        self.broken(5, "out", *[IF, "shorter", "end"] * 20)
        self.kept("put", *[IF, "longer", "quit", "end"] * 15)
        self.kept("take", *[IF, *DOWN, "shorter", "quit", "end"] * 10)
        self.broken(2, "out", *[IF, "to start", "quit", "end"] * 15)
        self.broken(4, "out", *DOWN, *[IF, "to start", "else", "lay", "end"] * 11)
        self.kept("out", *DOWN, IF, "to start", *[IF, "grab", "end"] * 17, *UP, "end")

    def test_ifs_with_loops(self):
        for kind in KINDS:
            self.kept(kind, *[IF, *DOWN, "quit", "else", *UP, "quit", "end"] * 6)
            self.broken(6, kind, *[IF, *DOWN, "end"] * 15)
            self.kept(kind, *[IF, "quit", "else", "end"] * 14, *DOWN, *UP)

    def test_nested_ifs(self):
        for kind in KINDS:
            self.kept(kind, *[IF] * 30, *["end"] * 30)
            self.broken(30, kind, *[IF] * 29, "to start", *["end"] * 29)
            self.kept(kind, *[IF, "else"] * 20, *["end"] * 20)


if __name__ == "__main__":
    unittest.main()
