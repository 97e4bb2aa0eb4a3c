"""Verdicts: the examples, codes with a slip whose least cases are known by hand, and what is refused."""

import unittest

from heapcode.codes import Code
from heapcode.errors import BadKind, BadPromise
from heapcode.play import play
from heapcode.verdicts import keeps, kept, least_case, mends
from tests.asking import SETTLING, VALUES, error_of
from tests.texts import LEAST, ONE, RISE, SIFT, UP

PROMISES = ("inside", "ends", "items", "order", "told", "places")
DOWN_SWAP = "down has 1\npick 1\nif has 2 and kid 2 < kid 1\npick 2\nend\nif mate < at\nswap\ngo\nelse\nstop\nend\nend"


class TestExamples(unittest.TestCase):

    def test_the_examples_of_the_document(self):
        up = Code("put", 2, UP)
        least = Code("take", 2, LEAST)
        self.assertEqual(
            [kept(up), kept(least), least_case(least, "order")],
            [('inside', 'ends', 'items', 'order', 'told'), ('inside', 'ends', 'items', 'order', 'told'), None])
        one = Code("take", 2, ONE)
        self.assertEqual(
            [keeps(one, "items"), keeps(one, "order"), len(least_case(one, "order")[0])], [True, False, 4])
        self.assertEqual(
            [mends(Code("below", 2, "grab\n" + SIFT + "lay")), mends(Code("below", 2, "grab\n" + RISE + "lay"))],
            [('below', 'tree'), ('above',)])


class TestSlips(unittest.TestCase):

    def breaks(self, promise, many, kind, text, width=2):
        """The code breaks the promise, and on no list of less than so many items."""
        code = Code(kind, width, text)
        self.assertIs(keeps(code, promise), False, text)
        self.assertNotIn(promise, kept(code))
        case = least_case(code, promise)
        self.assertEqual(len(case[0]), many, (promise, text))
        self.assertIn(promise, play(code, *case).broken)

    def holds(self, kind, text, *promises, width=2):
        code = Code(kind, width, text)
        for promise in promises:
            self.assertIs(keeps(code, promise), True, (promise, text))
            self.assertIsNone(least_case(code, promise))
        self.assertTrue(set(promises) <= set(kept(code)))

    def test_a_put_that_climbs_one_level_alone(self):
        # Place 3 is the first one that is two levels below the place 0.
        self.breaks("order", 3, "put", "longer\nup below root and at < mate\nswap\nstop\nend")
        self.breaks("order", 4, "put", "longer\nup below root and at < mate\nswap\nstop\nend", 3)
        self.breaks("order", 1, "put", "longer")
        self.holds("put", UP.replace("<", "<="), "inside", "ends", "items", "order", "told")

    def test_a_put_that_forgets_the_place_0(self):
        text = UP.replace("below root and ", "")
        self.breaks("inside", 0, "put", text)
        self.holds("put", text, "ends", "items", "order", "told")

    def test_a_put_without_longer(self):
        self.breaks("inside", 1, "put", UP.replace("longer\n", ""))
        self.breaks("items", 0, "put", "")

    def test_a_put_that_does_not_go(self):
        text = "longer\nup below root and at < mate\nswap\nend"
        self.holds("put", text, "inside", "ends", "items")
        self.breaks("order", 3, "put", text)
        # With equal keys the two are exchanged again and again.
        self.breaks("ends", 1, "put", text.replace("<", "<="))

    def test_a_put_of_the_hand_that_is_not_laid(self):
        text = "longer\ngrab\nup below root and hand < mate\npull\ngo\nend"
        self.breaks("items", 1, "put", text)
        self.holds("put", text + "\nlay", "inside", "ends", "items", "order", "told")

    def test_a_child_that_is_not_looked_at(self):
        # Behind the taking of the first of four items three are left, and child 2 can be the least.
        self.breaks("order", 4, "take", ONE)
        self.holds("take", ONE, "inside", "ends", "items", "told")
        self.breaks("order", 3, "below", "grab\n" + ONE[len("tell\ngrab last\nshorter\n"):])
        # For trees of width 3 it is child 3, the fourth of the places that are left.
        three = "tell\ngrab last\nshorter\ndown has 1\npick 1\nif has 2 and kid 2 < mate\npick 2\nend\n"
        three += "if mate < hand\npull\ngo\nelse\nstop\nend\nend\nif inside\nlay\nend"
        self.breaks("order", 5, "take", three, 3)

    def test_a_child_that_may_be_missing(self):
        # Two items are left, so that the place 0 has child 1 alone.
        self.breaks("inside", 3, "take", LEAST.replace("has 2 and ", ""))

    def test_a_loop_that_ends_too_early(self):
        text = LEAST.replace("down has 1", "down has 2")
        self.breaks("order", 3, "take", text)
        self.holds("take", text, "inside", "ends", "items", "told")
        self.breaks("order", 3, "take", LEAST.replace("down has 1", "down has 1 less"))
        self.breaks("inside", 2, "take", LEAST.replace("down has 1", "down has 1 more"))

    def test_the_wrong_way_round(self):
        self.breaks("order", 3, "take", LEAST.replace("mate < hand", "hand < mate"))
        self.breaks("order", 4, "take", LEAST.replace("kid 2 < kid 1", "kid 1 < kid 2"))
        self.holds("take", LEAST.replace("mate < hand", "mate <= hand"), "inside", "ends", "items", "order", "told")

    def test_the_last_item_is_not_laid_where_the_list_is_empty(self):
        self.breaks("inside", 1, "take", LEAST.replace("if inside\nlay\nend", "lay"))

    def test_lines_left_out(self):
        self.breaks("items", 1, "take", LEAST.replace("tell\n", ""))
        self.breaks("items", 1, "take", LEAST.replace("shorter\n", ""))
        # The hand is empty: with one item nothing is laid, with two the hand is asked for by `lay`.
        self.breaks("inside", 2, "take", LEAST.replace("grab last\n", ""))
        self.breaks("items", 2, "take", LEAST.replace("if inside\nlay\nend", "if inside\nend"))
        # Where nothing is pulled the hand is laid over an item that is lost.
        self.breaks("items", 3, "take", LEAST.replace("pull\n", ""))
        self.breaks("ends", 3, "take", LEAST.replace("else\nstop\n", ""))

    def test_the_last_place_is_still_there(self):
        text = "tell\ngrab last\n" + SIFT + "shorter\nif inside\nlay\nend"
        # The play stops above the last place, or pulls its item and goes there, and nothing is laid then.
        self.holds("take", text, "inside", "ends", "items", "order", "told")
        self.holds("take", text.replace("mate <", "mate <="), "inside", "ends", "items", "order", "told")
        # Without a look at the hand the play goes to the bottom. With six items the last one lies below 2,
        # so that it can be less than the item of 3, which comes to 1. Before that, it is no less than what is pulled.
        always = text.replace("if mate < hand\n", "").replace("else\nstop\nend\nend", "end")
        self.breaks("order", 6, "take", always)
        # The place is gone behind `shorter`.
        self.breaks("inside", 1, "take", text.replace("if inside\nlay\nend", "lay"))

    def test_the_last_place_is_forgotten(self):
        text = LEAST.replace("grab last", "grab")
        # The first item is told and laid again, the last one is lost.
        self.breaks("items", 2, "take", text)
        self.holds("take", text, "inside", "ends")
        self.holds("take", "tell\ntrade\nshorter\n" + DOWN_SWAP, "inside", "ends", "items", "order", "told")
        self.breaks("items", 2, "take", "tell\nshorter\n" + DOWN_SWAP)

    def test_an_out_without_a_way_up(self):
        text = "tell\ngrab last\nshorter\nif inside\n" + SIFT + "lay\nend"
        # The place 5 is the first one that is not below the parent, 1, of the places 3 and 4.
        self.breaks("order", 6, "out", text)
        self.holds("out", text, "inside", "ends", "items", "told")

    def test_an_out_without_a_way_down(self):
        text = "tell\ngrab last\nshorter\nif inside\n" + RISE + "lay\nend"
        self.breaks("order", 3, "out", text)

    def test_an_out_whose_start_is_the_last_place(self):
        text = "tell\ngrab last\nshorter\n" + RISE + "lay"
        self.breaks("inside", 1, "out", text)
        self.breaks("inside", 1, "out", "tell\ngrab last\nshorter\nlay")
        self.holds("out", "tell\ngrab last\nshorter\nif inside\nlay\nend", "inside", "ends", "items", "told")

    def test_told(self):
        # The last item is told and goes, all others stay.
        text = "trade\ntell\ntrade\nshorter"
        self.holds("take", text, "inside", "ends", "items", "order", "places")
        self.breaks("told", 2, "take", text)
        self.breaks("told", 2, "out", text)
        self.holds("take", "tell\nquit", "told", "order", "places")

    def test_settling(self):
        self.breaks("order", 2, "above", "grab\n" + SIFT + "lay")
        self.breaks("order", 2, "below", "grab\n" + RISE + "lay")
        self.breaks("items", 2, "below", "grab\n" + SIFT[:-1])
        self.breaks("ends", 2, "below", "down has 1\npick 1\nswap\nend")
        self.breaks("order", 2, "either", "")
        self.holds("either", "", "inside", "ends", "items", "told", "places")
        # Nothing is less than what stands at the place 0 of trees.
        self.breaks("items", 2, "tree", "up below root and at < mate\nswap\ngo\nend")

    def test_a_way_up_that_ends_at_the_start(self):
        bottom = "down has 1\npick 1\nif has 2 and kid 2 < mate\npick 2\nend\npull\ngo\nend\n"
        text = "grab\n" + bottom + "up below root and hand < mate\npull\ngo\nend\nlay"
        self.assertEqual(mends(Code("below", 2, text)), ("either", "above", "below"))
        # For tree it has to end there: else an item above the start is changed.
        self.breaks("items", 2, "tree", text)
        text = text.replace("below root", "below start")
        self.assertEqual(mends(Code("below", 2, text)), ("below", "tree"))

    def test_places(self):
        noted = LEAST.replace("pull\n", "pull\nnote\n").replace("lay\n", "lay\nnote\n")
        self.holds("take", noted, *PROMISES)
        self.breaks("places", 2, "take", LEAST)
        self.breaks("places", 2, "take", noted.replace("lay\nnote\n", "lay\n"))
        # Two items have to be left for one to be pulled.
        self.breaks("places", 3, "take", noted.replace("pull\nnote\n", "pull\n"))
        self.breaks("places", 0, "put", UP)
        self.breaks("places", 1, "put", UP.replace("longer\n", "longer\nnote\n"))

    def test_notes_in_the_wrong_order(self):
        right = "up below root and at < mate\nswap\nnote\nnote mate\ngo\nend"
        self.holds("above", right, *PROMISES)
        self.breaks("places", 2, "above", right.replace("swap\nnote\nnote mate\n", "note\nnote mate\nswap\n"))
        self.holds("above", right.replace("note\nnote mate\n", "note mate\nnote\n"), *PROMISES)
        # The item that climbs is noted where it stops alone; the others each time.
        self.holds("above", "up below root and at < mate\nswap\nnote\ngo\nend\nnote", *PROMISES)
        self.breaks("places", 2, "above", "up below root and at < mate\nswap\ngo\nnote\nend")


class TestMends(unittest.TestCase):

    def test_each_settling_kind_gives_the_same_answer(self):
        text = "up below root and at < mate\nswap\ngo\nend\nto start\n" + DOWN_SWAP
        for kind in SETTLING:
            self.assertEqual(mends(Code(kind, 2, text)), ("either", "above", "below"))
            self.assertEqual(mends(Code(kind, 2, "")), ())
            self.assertEqual(mends(Code(kind, 2, DOWN_SWAP)), ("below", "tree"))

    def test_other_kinds_are_refused(self):
        for kind in ("put", "take", "top", "out"):
            error = error_of(mends, Code(kind, 2, ""))
            self.assertEqual((error.__class__, error.kind), (BadKind, kind))


class TestValues(unittest.TestCase):

    def test_no_promise(self):
        code = Code("take", 2, LEAST)
        for value in VALUES + ("Order", "order ", ("order",), ["order"]):
            for call in (keeps, least_case):
                error = error_of(call, code, value)
                self.assertIs(error.__class__, BadPromise)
                self.assertIs(error.promise, value)

    def test_questions_return_true_or_false(self):
        code = Code("take", 2, LEAST)
        for promise in PROMISES:
            self.assertIs(keeps(code=code, promise=promise), promise != "places")
        self.assertEqual(kept(code=code), PROMISES[:5])

    def test_the_form_of_cases(self):
        for kind, start, given in (
                ("put", False, True), ("take", False, False), ("top", False, True), ("out", True, False),
                ("either", True, False), ("above", True, False), ("below", True, False), ("tree", True, False)):
            case = least_case(code=Code(kind, 2, "lay"), promise="inside")
            self.assertEqual((case.__class__, len(case)), (tuple, 3))
            items, at, handed = case
            self.assertIs(items.__class__, tuple)
            for item in items + ((handed,) if given else ()):
                self.assertEqual([value.__class__ for value in item], [int, int])
            self.assertEqual((at is not None, handed is not None), (start, given))
            marks = [mark for _, mark in items] + ([handed[1]] if given else [])
            self.assertEqual(len(marks), len(set(marks)))

    def test_asked_again_the_answers_are_the_same(self):
        code = Code("take", 2, ONE)
        self.assertEqual([kept(code), least_case(code, "order")], [kept(code), least_case(code, "order")])
        self.assertEqual(kept(code), kept(Code("take", 2, ONE)))
        self.assertEqual(code, Code("take", 2, ONE))


if __name__ == "__main__":
    unittest.main()
