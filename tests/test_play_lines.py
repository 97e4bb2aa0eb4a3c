"""Each line of [8] and [9] and each part of [10], in plays that are done and in plays that it makes beyond."""

import unittest

from heapcode.codes import Code
from heapcode.play import play


def listed(keys):
    """Items with these keys, with their places as marks."""
    return [(key, place) for place, key in enumerate(keys)]


class TestLines(unittest.TestCase):

    def done(self, kind, text, keys, start=None, given=None, left=None, width=2):
        """Plays; the play is done, and leaves these keys. Returns it."""
        found = play(Code(kind, width, text), listed(keys), start, given)
        self.assertEqual(found.ended, "done", text)
        if left is not None:
            self.assertEqual([key for key, _ in found.left], left, text)
        return found

    def beyond(self, line, kind, text, keys, start=None, given=None, width=2):
        """Plays; the play is beyond at the line, which is played."""
        found = play(Code(kind, width, text), listed(keys), start, given)
        self.assertEqual((found.ended, found.broken), ("beyond", ("inside",)), text)
        self.assertEqual(max(found.lines()), line, text)
        return found


class TestTopLevel(TestLines):

    def test_tell(self):
        self.assertEqual(self.done("out", "tell", [1, 2], 1).told, (2, 1))
        self.beyond(1, "put", "tell", [1], given=(0, 9))
        self.beyond(2, "take", "shorter\ntell", [1])

    def test_grab_and_lay(self):
        self.done("take", "grab last\nlay", [1, 5], left=[5, 5])
        self.done("top", "grab given\nlay", [1, 5], given=(3, 9), left=[3, 5])
        self.done("out", "grab\nlay", [1, 5], 1, left=[1, 5])
        self.done("put", "longer\ngrab\nlay", [1], given=(3, 9), left=[1, 3])
        self.beyond(1, "put", "grab", [1], given=(3, 9))
        self.beyond(2, "out", "shorter\ngrab", [1, 2], 1)

    def test_lay_with_an_empty_hand_or_behind_the_list(self):
        for kind, start in (("take", None), ("out", 0), ("tree", 0)):
            self.beyond(1, kind, "lay", [1], start)
        self.beyond(2, "put", "grab given\nlay", [1], given=(0, 9))
        self.beyond(3, "take", "grab\nshorter\nlay", [1])
        self.beyond(3, "out", "grab\nshorter\nlay", [1, 2], 1)
        self.done("out", "grab\nshorter\nlay", [1, 2], 0, left=[1])

    def test_longer_shorter_and_trade(self):
        self.done("put", "longer", [], given=(3, 9), left=[3])
        self.done("take", "shorter", [3], left=[])
        self.done("take", "trade", [3, 4, 5], left=[5, 4, 3])
        self.done("out", "trade\nshorter", [3, 4, 5], 1, left=[3, 5])
        self.done("out", "trade", [3, 4, 5], 2, left=[3, 4, 5])

    def test_what_the_last_place_is_behind_shorter(self):
        self.done("take", "grab last\nshorter\nif inside\nlay\nend", [1, 2, 3], left=[3, 2])
        self.done("take", "grab last\nshorter\nif inside\nlay\nend", [1], left=[])

    def test_to_start(self):
        code = "grab\nup below root\ngo\nend\nlay\nto start\ngrab\ndown has 1\npick 1\ngo\nend\nlay"
        # The item 3 of the place 1 comes to the root, and from the start again to the place 3.
        self.done("either", code, [1, 3, 2, 4], 1, left=[3, 3, 2, 3])

    def test_note(self):
        found = self.done("out", "grab last\nlay\nnote", [1, 2, 3], 1, left=[1, 3, 3])
        self.assertEqual(found.table(), {0: 0, 1: 1, 2: 1})
        self.beyond(1, "put", "note", [1], given=(0, 9))
        self.assertEqual(self.done("put", "longer\nnote", [1], given=(0, 9)).table(), {0: 0, 9: 1})

    def test_quit(self):
        found = self.done("take", "quit\nlay", [1], left=[1])
        self.assertEqual((found.lines(), found.broken), ((1,), ("items",)))
        found = self.done("either", "down inside\nquit\nend\nlay", [1], 0)
        self.assertEqual((found.lines(), found.broken), ((1, 2), ()))
        self.done("either", "up inside\nif inside\nquit\nend\nend\nlay", [1], 0)

    def test_if_and_else(self):
        text = "if inside\ntell\nelse\nnote\nend\nquit"
        self.assertEqual(self.done("take", text, [1]).lines(), (1, 2, 6))
        text = "if not inside\ntell\nelse\nnote\nend\nquit"
        self.assertEqual(self.done("take", text, [1]).lines(), (1, 4, 6))
        self.assertEqual(self.done("take", "if inside\nelse\nnote\nend", [1]).lines(), (1,))
        self.assertEqual(self.done("take", "if below root\nend\ntell", [1]).lines(), (1, 3))
        text = "if inside\nif below root\ntell\nelse\nnote\nend\nelse\nquit\nend\ngrab"
        self.assertEqual(self.done("take", text, [1]).lines(), (1, 2, 5, 10))


class TestInLoops(TestLines):

    def test_go(self):
        self.done("either", "down has 2\npick 2\ngo\nend\nnote", [1, 2, 3], 0)
        self.beyond(2, "either", "down inside\ngo\nend", [1, 2], 0)
        self.beyond(3, "either", "down inside\npick 2\ngo\nend", [1, 2], 0)
        self.beyond(2, "either", "up inside\ngo\nend", [1, 2], 1)
        self.done("either", "up below root\ngo\nend", [1, 2], 1, left=[1, 2])

    def test_the_mate_goes_with_each_go(self):
        self.beyond(5, "either", "down inside\npick 1\ngo\nnote\npull\nend", [1, 2, 3, 4], 0)

    def test_the_mate_stays_from_round_to_round(self):
        text = "down inside\nif has 2\npick 1\nif hand <= at\npull\nstop\nend\nend\nend"
        self.done("either", "grab\n" + text, [1, 2, 3], 0, left=[2, 2, 3])
        text = "grab\ndown inside\nif mate < at\nstop\nend\npick 1\nend"
        self.beyond(3, "either", text, [1, 2], 0)
        text = "grab\ndown hand <= at\npick 1\nswap\nend\nlay"
        self.done("below", text, [5, 2, 6], 0, left=[5, 5, 6])

    def test_pull(self):
        self.done("either", "down inside\npick 1\npull\nquit\nend", [5, 2, 6], 0, left=[2, 2, 6])
        self.done("either", "up inside\npull\nquit\nend", [1, 0], 1, left=[1, 1])
        self.beyond(2, "either", "down inside\npull\nend", [1, 2], 0)
        self.beyond(3, "either", "down inside\npick 2\npull\nend", [1, 2], 0)
        self.beyond(2, "either", "up inside\npull\nend", [1, 2], 0)
        self.beyond(2, "put", "up below root\npull\nend", [1], given=(0, 9))
        self.beyond(3, "out", "shorter\nup below root\npull\nend", [1, 2], 1)

    def test_swap(self):
        self.done("either", "down inside\npick 2\nswap\nquit\nend", [5, 2, 6], 0, left=[6, 2, 5])
        self.done("either", "up inside\nswap\nquit\nend", [1, 0], 1, left=[0, 1])
        self.beyond(2, "either", "down inside\nswap\nend", [1, 2], 0)
        self.beyond(3, "either", "down inside\npick 2\nswap\nend", [1, 2], 0)
        self.beyond(2, "either", "up inside\nswap\nend", [1, 2], 0)
        self.beyond(2, "put", "up below root\nswap\nend", [1], given=(0, 9))

    def test_lay_in_loops(self):
        self.done("either", "grab\ndown has 1\npick 1\ngo\nlay\nend", [5, 2, 6, 3], 0, left=[5, 5, 6, 5])
        self.beyond(2, "either", "down inside\nlay\nend", [1], 0)
        self.beyond(2, "either", "up inside\nlay\nend", [1], 0)

    def test_notes_in_loops(self):
        found = self.done("either", "down inside\npick 2\nswap\nnote\nnote mate\nquit\nend", [5, 2, 6], 0)
        self.assertEqual((found.table(), found.broken), ({0: 2, 1: 1, 2: 0}, ("order",)))
        found = self.done("either", "up below root\nswap\nnote\nnote mate\ngo\nend", [1, 0], 1)
        self.assertEqual((found.table(), found.broken), ({0: 1, 1: 0}, ()))
        self.beyond(2, "either", "down inside\nnote mate\nend", [1, 2], 0)
        self.beyond(3, "either", "down inside\npick 1\nnote mate\nend", [1], 0)
        self.beyond(2, "either", "up inside\nnote mate\nend", [1, 2], 0)
        self.beyond(2, "put", "up below root\nnote\nend", [1], given=(0, 9))

    def test_stop(self):
        found = self.done("either", "down inside\nstop\nend\nnote", [1], 0)
        self.assertEqual((found.lines(), found.sides()), ((1, 2, 4), ((1, True),)))
        found = self.done("either", "up inside\nif below root\nstop\nelse\nstop\nend\nend\nnote", [1, 2], 1)
        self.assertEqual(found.lines(), (1, 2, 3, 8))

    def test_pick_alone_does_nothing(self):
        self.done("either", "down inside\npick 1\npick 2\nstop\nend", [1], 0)

    def test_a_turn(self):
        text = "tell\ngrab last\nshorter\ndown has 1\npick 1\ngo\nend\nup below root and hand < mate\ngo\nend\nif inside\nlay\nend"
        self.done("take", text, [1, 2, 3, 4], left=[1, 4, 3])
        self.done("take", text.replace("hand < mate", "mate < hand"), [1, 2, 3, 4], left=[4, 2, 3])
        self.done("take", text, [1], left=[])


class TestParts(TestLines):

    def sides(self, kind, text, keys, start=None, given=None, width=2):
        return self.done(kind, text, keys, start, given, width=width).sides()

    def test_comparisons_at_the_top_level(self):
        for part, keys, given, side in (
                ("given < at", [2], (1, 9), True), ("given < at", [1], (1, 9), False), ("given <= at", [1], (1, 9), True),
                ("at <= given", [1], (1, 9), True), ("at < given", [2], (1, 9), False), ("not at < given", [2], (1, 9), True)):
            found = self.done("top", f"if {part}\nend", keys, given=given)
            self.assertEqual((found.sides(), found.compares), (((1, side),), 1), part)
        self.assertEqual(self.sides("take", "grab last\nif hand <= at\nend", [1, 1]), ((2, True),))
        self.assertEqual(self.sides("put", "grab given\nif given <= hand\nend", [], given=(1, 1)), ((2, True),))

    def test_comparisons_beyond(self):
        found = self.beyond(1, "take", "if hand < at\nend", [1])
        self.assertEqual((found.compares, found.sides()), (0, ()))
        self.beyond(1, "take", "if at <= hand\nend", [1])
        self.beyond(1, "put", "if at < given\nend", [1], given=(1, 9))
        self.beyond(2, "put", "grab given\nif hand < at\nend", [1], given=(1, 9))
        self.beyond(1, "either", "down mate < at\nend", [1, 2], 0)
        self.beyond(1, "either", "down kid 1 < at\nend", [1], 0)
        self.beyond(1, "either", "down at < kid 2\nend", [1, 2], 0)
        self.beyond(1, "either", "up mate < at\nend", [1, 2], 0)
        self.beyond(1, "either", "up at <= mate\nend", [1, 2], 0)
        self.beyond(3, "either", "down inside\npick 2\nif mate < at\nend\nend", [1, 2], 0)

    def test_parts_are_asked_from_the_left_until_one_does_not_hold(self):
        found = self.done("take", "if not inside and hand < at\nend", [1])
        self.assertEqual((found.sides(), found.compares), (((1, False),), 0))
        found = self.beyond(1, "top", "if given < at and hand < at\nend", [2], given=(1, 9))
        self.assertEqual((found.sides(), found.compares), ((), 1))
        found = self.done("top", "if given < at and hand < at\nend", [1], given=(1, 9))
        self.assertEqual((found.sides(), found.compares), (((1, False),), 1))
        found = self.done("top", "if given <= at and at <= given and not at < given\nend", [1], given=(1, 9))
        self.assertEqual((found.sides(), found.compares), (((1, True),), 3))

    def test_comparisons_in_loops(self):
        for part, side in (
                ("kid 1 < kid 2", True), ("kid 2 < kid 1", False), ("at < kid 1", True), ("kid 2 <= at", False),
                ("hand < kid 1", True), ("kid 2 <= hand", False), ("mate < at", False), ("at <= mate", True),
                ("mate < kid 2", True), ("mate <= kid 1", True), ("mate < kid 1", False), ("hand <= at", True)):
            text = f"grab\ndown inside\npick 1\nif {part}\nend\nstop\nend"
            self.assertIn((4, side), self.sides("either", text, [1, 2, 3], 0), part)
        for part, side in (("at < mate", False), ("mate < at", True), ("mate <= hand", True), ("hand < mate", False)):
            self.assertIn((3, side), self.sides("either", f"grab\nup inside\nif {part}\nend\nstop\nend", [1, 2], 1), part)

    def test_has(self):
        for width in (2, 3, 4):
            for count in range(1, 8):
                for number in range(1, width + 1):
                    for word, shift in (("", 0), (" less", -1), (" more", 1)):
                        text = f"down has {number}{word}\nstop\nend"
                        self.assertEqual(
                            self.sides("either", text, list(range(count)), 0, width=width),
                            ((1, number < count + shift),), (width, count, number, word))

    def test_has_where_the_list_got_longer_or_shorter(self):
        self.assertEqual(self.sides("put", "longer\ndown has 1 more\nstop\nend", [], given=(1, 1)), ((2, True),))
        self.assertEqual(self.sides("put", "down has 1 more\nstop\nend", [], given=(1, 1)), ((1, False),))
        self.assertEqual(self.sides("take", "shorter\ndown has 1\nstop\nend", [1, 2]), ((2, False),))
        self.assertEqual(self.sides("take", "shorter\ndown has 1 more\nstop\nend", [1, 2]), ((2, True),))
        self.assertEqual(self.sides("take", "shorter\ndown has 1 more\nstop\nend", [1]), ((2, False),))
        self.assertEqual(self.sides("take", "down has 1 less\nstop\nend", [1, 2]), ((1, False),))

    def test_inside(self):
        self.assertEqual(self.sides("put", "if inside\nend", [1], given=(1, 1 + 1)), ((1, False),))
        self.assertEqual(self.sides("put", "longer\nif inside\nend", [1], given=(1, 2)), ((2, True),))
        self.assertEqual(self.sides("take", "shorter\nif inside\nend", [1]), ((2, False),))
        self.assertEqual(self.sides("take", "shorter\nif inside\nend", [1, 2]), ((2, True),))
        self.assertEqual(self.sides("out", "shorter\nif inside\nend", [1, 2], 1), ((2, False),))

    def test_below_root_and_below_start(self):
        self.assertEqual(self.sides("out", "if below root\nend", [1, 2], 1), ((1, True),))
        self.assertEqual(self.sides("out", "if below root\nend", [1, 2], 0), ((1, False),))
        self.assertEqual(self.sides("out", "if below start\nend", [1, 2], 1), ((1, False),))
        # Above the start it is another place, too.
        self.assertEqual(self.sides("out", "up below root\ngo\nend\nif below start\nend", [1, 2], 1),
                         ((1, False), (1, True), (4, True)))
        self.assertEqual(self.sides("put", "if below root\nend", [], given=(1, 1)), ((1, False),))


if __name__ == "__main__":
    unittest.main()
