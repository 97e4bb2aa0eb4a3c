"""Uses: the examples, lines that are never used, stations by hand, and what is refused."""

import unittest

from heapcode.codes import Code
from heapcode.errors import NoLine
from heapcode.play import play
from heapcode.uses import all_stations, case_for_line, case_for_side, case_for_station, used_lines, used_sides
from tests.asking import KINDS, SETTLING, error_of
from tests.texts import LEAST, ONE, SIFT, UP


class TestExamples(unittest.TestCase):

    def test_the_examples_of_the_document(self):
        up = Code("put", 2, UP)
        self.assertEqual(
            [used_lines(up), used_sides(up), len(all_stations(up))], [(1, 2, 3, 4), ((2, False), (2, True)), 6])


class TestUses(unittest.TestCase):

    def used(self, kind, text, lines, sides, width=2):
        code = Code(kind, width, text)
        self.assertEqual((used_lines(code), used_sides(code)), (lines, sides), text)
        for line in range(1, len(code) + 1):
            case = case_for_line(code, line)
            if line in lines:
                self.assertIn(line, play(code, *case).lines())
            else:
                self.assertIsNone(case)
            for side in (True, False):
                case = case_for_side(code, line, side)
                if (line, side) in sides:
                    self.assertIn((line, side), play(code, *case).sides())
                else:
                    self.assertIsNone(case)
        return code

    def test_codes_of_the_document(self):
        # The ends (5 of the first one) are never played.
        self.used("put", UP, (1, 2, 3, 4), ((2, False), (2, True)))
        lines = (1, 2, 3, 4, 5, 6, 7, 9, 10, 11, 13, 16, 17)
        sides = tuple((line, side) for line in (4, 6, 9, 16) for side in (False, True))
        self.used("take", LEAST, lines, sides)

    def test_what_can_not_be(self):
        for part in ("given < at and at < given", "not given <= at and given < at"):
            self.used("top", f"if {part}\nnote\nend", (1,), ((1, False),))
        # The last item is no less than the first one.
        self.used("take", "grab last\nif hand < at\nnote\nend", (1, 2), ((2, False),))
        self.used("take", "grab last\nif hand <= at\nnote\nend", (1, 2, 3), ((2, False), (2, True)))
        self.used("out", "grab last\nif hand < at\nnote\nend", (1, 2, 3), ((2, False), (2, True)))
        self.used("take", "if below root\nnote\nend", (1,), ((1, False),))
        self.used("take", "if below start\nnote\nelse\ntell\nend", (1, 4), ((1, False),))
        self.used("put", "if inside\nnote\nend\nlonger\nif inside\nnote\nend", (1, 4, 5, 6), ((1, False), (5, True)))

    def test_the_way_of_the_last_item(self):
        # Child 1 of the place 0 is above the last item or beside it, so each can be less; on the way it can not.
        text = "grab last\ndown has 1 less\nif hand < kid 1\nstop\nend\nquit\nend"
        self.used("take", text, (1, 2, 3, 4, 6), ((2, False), (2, True), (3, False), (3, True)))
        # A child that is the only one is the last item itself.
        text = "grab last\ndown has 1 and not has 2\nif hand < kid 1\nstop\nend\nquit\nend"
        self.used("take", text, (1, 2, 3, 6), ((2, False), (2, True), (3, False)))
        # If the last place is gone the last item was the other child, which can be less.
        text = "grab last\nshorter\ndown has 1 and not has 2\nif hand < kid 1\nstop\nend\nquit\nend"
        self.used("take", text, (1, 2, 3, 4, 5, 7), ((3, False), (3, True), (4, False), (4, True)))

    def test_a_parent_is_no_more_than_its_child(self):
        self.used("out", "grab\nup below root and hand < mate\ngo\nend", (1, 2), ((2, False),))
        self.used("above", "grab\nup below root and hand < mate\ngo\nend", (1, 2, 3), ((2, False), (2, True)))
        self.used("below", "grab\nup below root and hand < mate\ngo\nend", (1, 2), ((2, False),))
        self.used("below", "grab\ndown has 1 and kid 1 < hand\npick 1\ngo\nend", (1, 2, 3, 4), ((2, False), (2, True)))
        self.used("above", "grab\ndown has 1 and kid 1 < hand\npick 1\ngo\nend", (1, 2), ((2, False),))
        self.used("tree", "grab\nup below root and hand < mate\ngo\nend", (1, 2, 3), ((2, False), (2, True)))

    def test_lines_of_plays_that_are_not_done_count(self):
        self.used("take", "note\nlay\nnote", (1, 2), ())
        self.used("put", "longer\nup mate <= at\nend", (1, 2), ((2, False), (2, True)))
        self.used("either", "down inside\nend\nnote", (1,), ((1, True),))

    def test_behind_a_quit(self):
        self.used("take", "quit\nnote", (1,), ())
        self.used("take", "if inside\nquit\nend\nnote", (1, 2), ((1, True),))
        self.used("either", "down has 1\nstop\npick 1\nend", (1, 2), ((1, False), (1, True)))

    def test_has_less_and_more(self):
        text = "down has 1 more and not has 1\nstop\nend"
        # For put only the place 0 of the empty list, made longer, would have a child if the list were longer.
        self.used("put", "longer\n" + text, (1, 2, 3), ((2, False), (2, True)))
        self.used("put", text, (1,), ((1, False),))
        text = "down has 2 less\nif has 2\nquit\nend\nnote\nend"
        self.used("take", text, (1, 2, 3), ((1, False), (1, True), (2, True)))
        for width in (2, 3, 4):
            text = f"down has {width} and not has {width} less\nquit\nend"
            self.used("tree", text, (1, 2), ((1, False), (1, True)), width)

    def test_what_a_way_back_meets(self):
        # A turn: the way back stands at the place where the hand's item is no less than the parent's.
        bottom = "down has 1\npick 1\nif has 2 and kid 2 < mate\npick 2\nend\npull\ngo\nend\n"
        text = "grab\n" + bottom + "up below start and hand < mate\npull\ngo\nend\nif below start\nlay\nelse\nnote\nend"
        lines = (1, 2, 3, 4, 5, 7, 8, 10, 11, 12, 14, 15, 17)
        sides = tuple((line, side) for line in (2, 4, 10, 14) for side in (False, True))
        self.used("below", text, lines, sides)
        # Where the way back does not climb the play is at the start behind it if it did not leave it.
        text = "grab\n" + bottom + "up inside\nstop\nend\nif below start\nlay\nend"
        self.used("below", text, (1, 2, 3, 4, 5, 7, 8, 10, 11, 13, 14), (
            (2, False), (2, True), (4, False), (4, True), (10, True), (13, False), (13, True)))

    def test_a_code_without_lines(self):
        for kind in KINDS:
            code = self.used(kind, "", (), ())
            self.assertEqual(all_stations(code), [])


class TestStations(unittest.TestCase):

    def stations(self, kind, text, expected, width=2):
        code = Code(kind, width, text)
        found = all_stations(code)
        self.assertEqual(len(found), len(set(found)), text)
        self.assertEqual(set(found), set(expected), text)
        for station in found:
            self.assertIn(station, play(code, *case_for_station(code, station)).stations())

    def test_put(self):
        # At the new place there is no child; above it one or two; the place 0 can have none, one or two.
        self.stations("put", UP, [
            (2, 0, False, None), (2, 0, True, None), (2, 1, False, None), (2, 1, True, None), (2, 2, False, None),
            (2, 2, True, None)])

    def test_put_without_longer(self):
        # The start is none of the list, so the hand is not compared with it; its parent can have no child then.
        self.stations("put", "grab given\nup below root\ngo\nquit\nend", [(2, 0, False, None), (2, 0, True, None)])
        self.stations("put", "grab given\nup below root\ngo\nend", [
            (2, 0, False, None), (2, 0, True, None)] + [
            (2, kids, root, rank) for kids in (0, 1, 2) for root in (True, False) for rank in (-1, 0, 1)])

    def test_take(self):
        # The last item is no less than the first one; what comes to lie below it is less than the hand.
        self.stations("take", LEAST, [
            (4, 0, True, None), (4, 0, True, 0), (4, 0, True, 1), (4, 1, True, 0), (4, 1, True, 1), (4, 2, True, 0),
            (4, 2, True, 1), (4, 0, False, 1), (4, 1, False, 1), (4, 2, False, 1)])

    def test_widths(self):
        for width in (3, 4):
            self.stations("tree", "down has 1\nquit\nend", [
                (1, kids, root, None) for kids in range(width + 1) for root in (True, False)], width)
            self.stations("tree", "grab\nup below root\ngo\nend", [
                (2, kids, root, 0) for kids in range(width + 1) for root in (True, False)] + [
                (2, kids, root, rank) for kids in range(1, width + 1) for root in (True, False) for rank in (-1, 1)], width)

    def test_the_second_time_of_endless_plays(self):
        self.stations("either", "down inside\nend", [(1, kids, root, None) for kids in (0, 1, 2) for root in (True, False)])

    def test_both_loops(self):
        text = "grab\nup below root and hand < mate\npull\ngo\nend\nlay\nto start\ngrab\n" + SIFT + "lay"
        up = [(2, kids, root, 0) for kids in (0, 1, 2) for root in (True, False)]
        # Where the hand's item has climbed it is less than what was pulled from there.
        up += [(2, kids, root, -1) for kids in (1, 2) for root in (True, False)]
        down = [(9, kids, root, 0) for kids in (0, 1, 2) for root in (True, False)]
        down += [(9, kids, False, 1) for kids in (0, 1, 2)]
        self.stations("either", text, up + down)
        self.stations("above", text, up + down[:6])

    def test_lists_are_new(self):
        code = Code("put", 2, UP)
        all_stations(code).clear()
        self.assertEqual(len(all_stations(code)), 6)


class TestRefusals(unittest.TestCase):

    def test_numbers_that_are_no_lines(self):
        code = Code("take", 2, ONE)
        for line in (0, -1, 16, 17, 10 ** 20, -10 ** 20):
            for error in (error_of(case_for_line, code, line), error_of(case_for_side, code, line, True)):
                self.assertEqual((error.__class__, error.line), (NoLine, line))
        for call, values in ((case_for_line, (1,)), (case_for_side, (1, False))):
            self.assertEqual(error_of(call, Code("take", 2, ""), *values).line, 1)

    def test_what_is_no_station_of_the_code(self):
        code = Code("put", 2, UP)
        for station in (
                (1, 0, False, None), (2, 3, False, None), (2, 0, False, 0), (2, 0, None, None), (2, 0, False), (),
                (2, 0, 0, None), (2, 1, 1, None), (2, True, True, None), (2, 0, False, None, None)):
            self.assertIsNone(case_for_station(code, station))
        self.assertIsNotNone(case_for_station(code=code, station=(2, 0, False, None)))

    def test_sides_of_lines_without_a_test(self):
        code = Code("put", 2, UP)
        for line in (1, 3, 4, 5):
            for side in (True, False):
                self.assertIsNone(case_for_side(code=code, line=line, side=side))

    def test_the_form_of_cases(self):
        for kind in KINDS:
            items, start, given = case_for_line(code=Code(kind, 2, "note"), line=1)
            self.assertIs(items.__class__, tuple)
            self.assertEqual(start is not None, kind in SETTLING + ("out",))
            self.assertEqual(given is not None, kind in ("put", "top"))


if __name__ == "__main__":
    unittest.main()
