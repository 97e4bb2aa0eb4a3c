"""Point [20]: whether two codes are alike, and cases of least size for which they differ."""

import random
import unittest

from heapcode.codes import Code
from heapcode.errors import BadKind, OtherKinds, OtherWidths
from heapcode.pairs import alike, parting_case
from heapcode.play import play
from tests.asking import SETTLING, error_of
from tests.second import Second, read
from tests.small_lists import cases, first_place
from tests.symbols import differ, parts
from tests.texts import LEAST, SIFT, UP, code_or_none, right_codes, slipped, slipped_codes
from tests.wild_texts import wild_codes

KINDS = ("put", "take", "top")
SIZES = {2: range(9), 3: range(8), 4: range(7)}
HEAD = "tell\ngrab last\nshorter\n"


def take(text, width=2):
    return Code("take", width, text)


def played(code, other, case):
    """The plays of the two codes on a case, by the second player."""
    items, start, given = case
    place = first_place(code.kind, items, start)
    return [Second(code.width, read(one.text), items, place, given) for one in (code, other)]


def twisted(chance, code):
    """A code with a slip or two more."""
    lines = code.text.split("\n") if code.text else ["quit"]
    for _ in range(20):
        found = lines
        for _ in range(chance.choice((1, 1, 2))):
            found = slipped(chance, found, code.width) if found else found
        other = code_or_none(code.kind, code.width, found)
        if other is not None:
            return other
    return code


class TestPairs(unittest.TestCase):

    def check(self, code, other, size=None):
        """The codes part on lists of so many items and on no shorter ones; they are alike if this is None."""
        for one, two in ((code, other), (other, code)):
            where = (one.kind, one.width, one.text, two.text)
            case = parting_case(one, two)
            self.assertEqual(alike(one, two), case is None, where)
            self.assertEqual(None if case is None else len(case[0]), size, where)
            if case is not None:
                self.check_case(one, two, case)
        parting = [count for count in range(7 if code.width == 2 else 6) if parts(code, other, count)]
        self.assertEqual(min(parting, default=None), size if size in parting else None, where)

    def check_case(self, code, other, case):
        where = (code.kind, code.width, code.text, other.text, case)
        self.assertTrue(isinstance(case, tuple) and isinstance(case[0], tuple), where)
        # The case is right for both: otherwise these plays raise an error.
        play(code, *case)
        play(other, *case)
        self.assertTrue(differ(*played(code, other, case)), where)


class TestAlike(TestPairs):

    def test_the_document(self):
        least = take(LEAST)
        later = take(least.text.replace("kid 2 < kid 1", "kid 2 <= kid 1"))
        found = [alike(least, least), alike(least, later), len(parting_case(least, later)[0])]
        self.assertEqual(found, [True, False, 4])
        self.check(least, later, 4)

    def test_a_code_and_itself(self):
        for width in (2, 3, 4):
            for code in right_codes(width, True, KINDS):
                self.check(code, code)
                self.check(code, Code(code.kind, code.width, code.text))

    def test_right_codes(self):
        # Those that go to the bottom first part from the others where items have equal keys, and only there.
        for width in (2, 3, 4):
            for kind, least in (("put", None), ("take", 3), ("top", 2)):
                codes = list(right_codes(width, False, (kind,)))
                for code in codes:
                    for other in codes:
                        bottom = ("mate < hand" in code.text or "mate < at" in code.text,
                                  "mate < hand" in other.text or "mate < at" in other.text)
                        if len(set(bottom)) == 2:
                            self.check(code, other, least)
                            to = code.text.replace("hand < mate", "hand <= mate")
                            if not bottom[0]:
                                self.check(Code(kind, width, to), other)
                        elif "given" not in code.text + other.text or "given <=" in code.text == "given <=" in other.text:
                            self.check(code, other)

    def test_the_table_does_not_count(self):
        for width in (2, 3):
            plain = list(right_codes(width, False, KINDS))
            for one, two in zip(plain, right_codes(width, True, KINDS)):
                self.check(one, two)
        self.check(Code("put", 2, "longer\nnote"), Code("put", 2, "longer"))

    def test_the_manner_of_the_end(self):
        self.check(take("lay"), take("quit"), 1)
        self.check(take("down inside\nend"), take("quit"), 1)
        self.check(take("down inside\nend"), take("lay"), 1)
        # Both are beyond, or endless; what they leave does not count.
        self.check(take("shorter\ntell"), take("tell\nlay"), 2)
        self.check(take("tell\nlay"), take("down inside\npull\nend"))
        self.check(take("grab last\nlay\nif below root\nend\ndown inside\nend"), take("tell\nup inside\nend"))

    def test_lists_of_other_lengths(self):
        self.check(take("tell\nshorter"), take("tell"), 1)
        self.check(Code("put", 3, "longer"), Code("put", 3, ""), 0)
        self.check(Code("top", 3, "tell"), Code("top", 3, "tell\ngrab given\nlay"), 1)

    def test_the_told_item(self):
        self.check(take("tell"), take(""), 1)
        self.check(take("tell"), take("grab\nshorter\nif inside\nlay\nend\ntell"), 1)
        self.check(take("trade\ntell\ntrade"), take("tell"), 2)
        self.check(Code("put", 2, "longer\ntell"), Code("put", 2, "longer"), 0)
        self.check(Code("top", 2, "grab given\nlay\ntell"), Code("top", 2, "tell\ngrab given\nlay"), 1)
        self.check(Code("top", 2, "tell\ntell"), Code("top", 2, "tell"))

    def test_the_last_place(self):
        self.check(take("trade"), take(""), 2)
        self.check(take("trade\nshorter"), take("shorter"), 2)
        # Behind `trade` the place 0 has the last item; the last place goes, whatever lies there.
        self.check(take("trade\nshorter"), take("grab last\nlay\nshorter"))
        self.check(take("trade"), take("grab last\nlay"), 2)
        text = "\ndown has 1\npick 1\nswap\ngo\nend"
        self.check(take("trade" + text), take("grab last\nlay" + text), 2)
        self.check(take("trade\nshorter" + text), take("grab last\nlay\nshorter" + text))
        # The plays end beside the way to the last place, which one of them has left another item.
        text = "\ndown inside\nif below start\nstop\nend\nif not has 2\npull\nend\npick 1\ngo\nend"
        self.check(take("trade" + text), take("grab last\nlay" + text), 3)

    def test_the_parent_of_the_place_at_which_a_play_ends(self):
        text = "longer\ngrab\nup below root\nstop\nend"
        self.check(Code("put", 2, text), Code("put", 2, text.replace("stop", "swap\nlay\nstop")), 1)
        self.check(Code("put", 2, text), Code("put", 2, text.replace("stop", "swap\nswap\nstop")))
        self.check(Code("put", 2, text), Code("put", 2, text.replace("stop", "go")))
        # One of them goes on where the other one has written.
        text = "longer\ngrab\nup below root and hand < mate\nswap\nlay\n"
        self.check(Code("put", 2, text + "stop\nend"), Code("put", 2, text + "go\nend"), 3)
        self.check(Code("put", 2, text + "stop\nend"), Code("put", 2, text + "go\nstop\nend"))

    def test_shorter_ahead_and_behind(self):
        ahead = take(HEAD + "down has 1\nif kid 1 <= hand\npick 1\npull\ngo\nelse\nstop\nend\nend\nif inside\nlay\nend")
        behind = "tell\ngrab last\ndown has 1 less\nif kid 1 <= hand\npick 1\npull\ngo\nelse\nstop\nend\nend\nshorter"
        self.check(ahead, take(behind + "\nif inside\nlay\nend"))
        # Going on to the last place leaves its item one place above, too, unless the hand is laid above all.
        self.check(ahead, take(behind.replace("has 1 less", "has 1") + "\nif inside\nlay\nend"))
        self.check(ahead, take(behind.replace("has 1 less", "has 1") + "\nif inside\nlay\nelse\nlay\nend"), 1)

    def test_what_two_lengths_tell_together(self):
        # One code looks at a list shortened by one, the other at a longer one; together they tell each size from 4 on.
        one = take("shorter\ndown not below start\nif has 2 less\nquit\nend\npull\nend")
        two = "down not below start\nif not has 2\npull\nend\npick 2\ngo\nif not has 1 more\npull\nend\nstop\nend\nshorter"
        self.check(one, take(two))
        self.check(one, take(two.replace("has 1 more", "has 1")), 5)
        self.check(take("shorter\ndown not below start\nif has 2\nquit\nend\npull\nend"), take(two), 4)
        text = "shorter\ndown not below start\nif not has {}\npull\nend\npick {}\ngo\nif {}\npull\nend\nstop\nend"
        self.check(take(text.format(1, 1, "has 2")), take(text.format(1, 1, "has 2 more")), 5)

    def test_keys_that_are_equal(self):
        for width in (2, 3, 4):
            self.check(Code("put", width, UP), Code("put", width, UP.replace("at < mate", "at <= mate")), 1)
            for one, two in (("mate < hand", "mate <= hand"), ("mate < hand", "not hand <= mate")):
                other = LEAST.replace(one, two)
                self.check(take(LEAST, width), take(other, width), 3 if "<= hand" in other else None)
        # The least child is the same one however it is found, if of equal ones the first counts.
        one = "down has 3\nif kid 2 < kid 1\nif kid 3 < kid 2\npick 3\nelse\npick 2\nend\nelse\nif kid 3 < kid 1\n"
        one += "pick 3\nelse\npick 1\nend\nend\npull\ngo\nend\nlay"
        two = "down has 3\npick 1\nif kid 2 < mate\npick 2\nend\nif kid 3 < mate\npick 3\nend\npull\ngo\nend\nlay"
        self.check(Code("top", 3, "tell\ngrab given\n" + one), Code("top", 3, "tell\ngrab given\n" + two))
        three = two.replace("kid 3 < mate", "kid 3 <= mate")
        self.check(Code("top", 3, "tell\ngrab given\n" + one), Code("top", 3, "tell\ngrab given\n" + three), 4)

    def test_one_path(self):
        # The lists are left as they are, but the plays go to other children.
        one, two = take("down has 2\npick 1\ngo\nend"), take("down has 2\npick 2\ngo\nend")
        self.check(one, two, 3)
        self.check(one, take("down has 2\npick 1\ngo\nstop\nend"))
        self.check(one, take("quit"))
        # Of a `go` that is beyond the place counts as none that was met.
        self.check(take("down has 1\npick 2\ngo\nend"), take("down has 1\npick 1\ngo\npull\nend"), 3)
        self.check(take("down inside\ngo\nend"), take("down inside\npull\nend"))
        self.check(take("down has 1 and not has 2\npick 2\ngo\nend"), take("down has 1 and not has 2\npick 1\ngo\npull\nend"))
        # The place at which the way up ends lies on the path, too.
        turn = "down has 1\npick 1\ngo\nend\nup below root\ngo\nend"
        self.check(take(turn), take("down has 1\npick 1\ngo\nend"))
        self.check(take(turn), take(turn.replace("pick 1", "pick 2").replace("has 1", "has 2")), 2 + 1)

    def test_turns(self):
        down = "down has 1\npick 1\nif has 2 and kid 2 < kid 1\npick 2\nend\npull\ngo\nend\n"
        tail = "if inside\nlay\nend"
        rise = "up below root and hand <= mate\npull\ngo\nend\n"
        self.check(take(HEAD + down + rise + tail), take(HEAD + SIFT + tail))
        self.check(take(HEAD + down + rise.replace("<=", "<") + tail), take(HEAD + SIFT + tail), 3)
        self.check(take(HEAD + down + rise.replace("<=", "<") + tail), take(HEAD + SIFT.replace("mate < hand", "mate <= hand") + tail))
        # One that turns, and ends on the way back in another manner.
        self.check(take(HEAD + down + rise + tail), take(HEAD + down + rise.replace("go\n", "go\nstop\n") + tail), 5)
        self.check(take(HEAD + down + rise + tail), take(HEAD + down + rise.replace("pull\n", "") + tail), 5)

    def test_differences_far_down(self):
        round_of_3 = "if has 1\npick 1\ngo\nend\n" * 3
        one = take("down has 1\n" + round_of_3 + "end")
        two = take("down has 1\n" + round_of_3 + "if has 1\npick 1\npull\nend\nend")
        self.check(one, two, 16)


class TestAgainstPlays(TestPairs):

    def check_sizes(self, code, other):
        """Whether they part, for each small size, by all plays."""
        where = (code.kind, code.width, code.text, other.text)
        least = next((size for size in SIZES[code.width] if parts(code, other, size)), None)
        case = parting_case(code, other)
        self.assertEqual(alike(code, other), case is None, where)
        if case is None or len(case[0]) not in SIZES[code.width]:
            self.assertIsNone(least, where)
        else:
            self.assertEqual(len(case[0]), least, where)
        if case is not None:
            self.check_case(code, other, case)
        return case is None

    def check_all(self, codes, seed):
        chance = random.Random(seed)
        found = [self.check_sizes(code, twisted(chance, code)) for code in codes for _ in range(2)]
        self.assertGreater(min(found.count(True), found.count(False)), len(found) // 8)

    def test_right_codes(self):
        for width in (2, 3):
            for kind in KINDS:
                codes = list(right_codes(width, False, (kind,)))
                for code in codes:
                    for other in codes:
                        self.check_sizes(code, other)

    def test_codes_with_slips(self):
        self.check_all(slipped_codes(random.Random(51), 300, (2, 2, 3, 4), KINDS), 52)

    def test_wild_codes(self):
        self.check_all(wild_codes(random.Random(53), 300, (2, 2, 3, 4), KINDS), 54)

    def test_all_small_lists_with_few_keys(self):
        chance = random.Random(55)
        for code in slipped_codes(chance, 60, (2, 3), KINDS) + wild_codes(chance, 30, (2, 3), KINDS):
            other = twisted(chance, code)
            case = parting_case(code, other)
            for size in range(5):
                found = any(differ(*played(code, other, one)) for one in cases(code.kind, code.width, size, size + 1))
                if case is None or size < len(case[0]):
                    self.assertFalse(found, (code.kind, code.width, code.text, other.text))
                elif size == len(case[0]):
                    self.assertTrue(found, (code.kind, code.width, code.text, other.text))


class TestErrors(unittest.TestCase):

    def test_the_first_that_is_due(self):
        for call in (alike, parting_case):
            self.assertIsInstance(error_of(call, Code("out", 2, ""), Code("tree", 3, "")), OtherKinds)
            self.assertIsInstance(error_of(call, Code("put", 2, ""), Code("take", 2, "")), OtherKinds)
            self.assertIsInstance(error_of(call, Code("out", 2, ""), Code("out", 3, "")), OtherWidths)
            self.assertIsInstance(error_of(call, Code("take", 4, ""), Code("take", 3, "")), OtherWidths)
            for kind in SETTLING + ("out",):
                error = error_of(call, Code(kind, 2, ""), Code(kind, 2, "quit"))
                self.assertIsInstance(error, BadKind)
                self.assertEqual(error.kind, kind)
            for kind in KINDS:
                self.assertIsNone(error_of(call, Code(kind, 2, ""), Code(kind, 2, "quit")))

    def test_by_name(self):
        self.assertTrue(alike(other=take(LEAST), code=take(LEAST)))
        self.assertEqual(len(parting_case(other=take("tell"), code=take(""))[0]), 1)

    def test_asked_in_turn(self):
        # What is kept of one pair does not tell of another one.
        least, tell, quits = take(LEAST), take("tell"), take("quit")
        for _ in range(2):
            self.assertFalse(alike(least, tell))
            self.assertTrue(alike(least, least))
            self.assertEqual(len(parting_case(tell, quits)[0]), 1)
            self.assertTrue(alike(quits, take("")))
            self.assertIsNone(parting_case(quits, take("")))


if __name__ == "__main__":
    unittest.main()
