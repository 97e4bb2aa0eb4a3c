"""Plays worked out by hand: the list that is left, what is told, lines, sides, stations, broken promises."""

import unittest

from heapcode.codes import Code
from heapcode.play import Play, play
from tests.texts import LEAST, RISE, SIFT, UP


class TestExamples(unittest.TestCase):

    def test_the_example_of_the_document(self):
        up = Code("put", 2, UP)
        least = Code("take", 2, LEAST)
        done = play(least, [(1, 10), (3, 11), (2, 12), (3, 13), (5, 14)])
        self.assertEqual(
            [done.ended, done.left, done.told, done.compares, done.broken],
            ['done', ((2, 12), (3, 11), (5, 14), (3, 13)), (1, 10), 2, ('places',)])
        self.assertEqual(
            [done.stations(), play(least, [(7, 1)]).left, play(up, [(4, 1), (6, 2)], given=(2, 3)).left],
            [((4, 2, True, 1), (4, 0, False, 1)), (), ((2, 3), (6, 2), (4, 1))])


class TestByHand(unittest.TestCase):

    def test_lines_sides_and_table_of_the_example(self):
        done = play(Code("take", 2, LEAST), [(1, 10), (3, 11), (2, 12), (3, 13), (5, 14)])
        self.assertIsInstance(done, Play)
        # One round at the place 0: child 2 is the least, its item is pulled; at the place 2 there is no child.
        self.assertEqual(done.lines(), (1, 2, 3, 4, 5, 6, 7, 9, 10, 11, 16, 17))
        self.assertEqual(done.sides(), ((4, False), (4, True), (6, True), (9, True), (16, True)))
        self.assertEqual(done.table(), {10: 0, 11: 1, 12: 2, 13: 3, 14: 4})

    def test_a_put_that_climbs_to_the_root(self):
        done = play(Code("put", 2, UP), [(2, 1), (4, 2), (3, 3)], given=(1, 9))
        self.assertEqual((done.ended, done.left), ("done", ((1, 9), (2, 1), (3, 3), (4, 2))))
        self.assertEqual((done.told, done.compares, done.broken), (None, 2, ("places",)))
        self.assertEqual(done.stations(), ((2, 0, False, None), (2, 1, False, None), (2, 2, True, None)))
        self.assertEqual((done.lines(), done.sides()), ((1, 2, 3, 4), ((2, False), (2, True))))
        self.assertEqual(done.table(), {1: 0, 2: 1, 3: 2})

    def test_a_put_that_stays(self):
        done = play(Code("put", 2, UP), [(2, 1)], given=(2, 9))
        self.assertEqual((done.left, done.compares, done.broken), (((2, 1), (2, 9)), 1, ("places",)))
        self.assertEqual((done.lines(), done.sides()), ((1, 2), ((2, False),)))

    def test_a_put_with_notes_keeps_all_promises(self):
        code = Code("put", 2, "longer\nnote\nup below root and at < mate\nswap\nnote\nnote mate\ngo\nend")
        done = play(code, [(2, 1), (4, 2)], given=(1, 9))
        self.assertEqual((done.left, done.broken), (((1, 9), (4, 2), (2, 1)), ()))
        self.assertEqual(done.table(), {1: 2, 2: 1, 9: 0})

    def test_an_out_with_both_loops(self):
        code = Code("out", 2, "tell\ngrab last\nshorter\nif inside\n" + RISE + "lay\nto start\ngrab\n" + SIFT + "lay\nend")
        items = [(1, 1), (5, 2), (2, 3), (6, 4), (7, 5), (3, 6)]
        done = play(code, items, 3)
        # The last item is 3; it rises above the 5, which comes to the start.
        self.assertEqual(done.left, ((1, 1), (3, 6), (2, 3), (5, 2), (7, 5)))
        self.assertEqual((done.told, done.broken), ((6, 4), ("places",)))
        self.assertEqual(done.stations(), ((5, 0, False, -1), (5, 2, False, -1), (12, 0, False, 0)))
        # Asked: 3 < 5 and 3 < 1.
        self.assertEqual(done.compares, 2)

    def test_told_is_the_last_one_told(self):
        code = Code("take", 2, "tell\ntrade\ntell\ntrade\nshorter")
        done = play(code, [(1, 1), (2, 2)])
        self.assertEqual((done.left, done.told, done.broken), (((1, 1),), (2, 2), ("told",)))
        self.assertEqual(play(code, [(1, 1), (1, 2)]).broken, ())

    def test_a_told_given_item_leaves_one_too_few(self):
        code = Code("top", 2, "grab given\nlay\ntell")
        done = play(code, [(1, 1)], given=(0, 2))
        self.assertEqual((done.left, done.told, done.broken), (((0, 2),), (0, 2), ("items",)))

    def test_order_is_not_asked_where_items_are_wrong(self):
        code = Code("below", 2, "grab\ndown has 1\npick 1\npull\nstop\nend")
        self.assertEqual(play(code, [(5, 1), (2, 2)], 0).broken, ("items",))
        self.assertEqual(play(code.as_kind("either"), [(5, 1), (2, 2)], 0).left, ((2, 2), (2, 2)))

    def test_order_and_places(self):
        code = Code("either", 2, "down has 1\npick 1\nswap\nstop\nend")
        done = play(code, [(1, 1), (2, 2)], 0)
        self.assertEqual((done.left, done.broken), (((2, 2), (1, 1)), ("order", "places")))
        code = Code("either", 2, "down has 1\npick 1\nswap\nnote\nnote mate\nstop\nend")
        done = play(code, [(1, 1), (2, 2)], 0)
        self.assertEqual((done.table(), done.broken), ({1: 1, 2: 0}, ("order",)))

    def test_tree_asks_for_the_tree_of_the_start_alone(self):
        code = Code("tree", 2, "grab\n" + SIFT + "lay")
        items = [(9, 1), (5, 2), (0, 3), (4, 4), (6, 5)]
        done = play(code, items, 1)
        self.assertEqual((done.left, done.broken), (((9, 1), (4, 4), (0, 3), (5, 2), (6, 5)), ("places",)))
        # An item outside of the tree of the start that changes its place breaks items, though none is lost.
        swap = Code("tree", 2, "up below root\nswap\nstop\nend")
        self.assertEqual(play(swap, items, 1).broken, ("items",))

    def test_an_item_that_leaves_keeps_its_entry(self):
        code = Code("out", 2, "tell\ngrab last\nshorter\nif inside\nlay\nnote\nend")
        done = play(code, [(1, 1), (2, 2), (3, 3)], 1)
        self.assertEqual((done.left, done.table(), done.broken), (((1, 1), (3, 3)), {1: 0, 2: 1, 3: 1}, ()))

    def test_lay_leaves_the_hand_as_it_is(self):
        code = Code("above", 2, "grab\nlay\nup below root\ngo\nlay\nstop\nend")
        self.assertEqual(play(code, [(1, 1), (0, 2)], 1).left, ((0, 2), (0, 2)))

    def test_a_play_that_is_not_done_breaks_one_promise_alone(self):
        self.assertEqual(play(Code("take", 2, "lay"), [(1, 1)]).broken, ("inside",))
        done = play(Code("take", 2, "tell\nlay"), [(1, 1), (2, 2)])
        self.assertEqual((done.ended, done.left, done.told), ("beyond", ((1, 1), (2, 2)), (1, 1)))
        self.assertEqual(play(Code("take", 2, "down inside\nend"), [(1, 1)]).broken, ("ends",))

    def test_a_code_without_lines(self):
        for kind in ("take", "top", "put"):
            given = None if kind == "take" else (0, 0)
            self.assertEqual(play(Code(kind, 2, ""), [(1, 1)], given=given).broken, ("items",))
        done = play(Code("either", 2, ""), [(1, 1), (0, 2)], 1)
        self.assertEqual((done.ended, done.lines(), done.sides(), done.stations()), ("done", (), (), ()))
        self.assertEqual((done.broken, done.compares), (("order",), 0))


class TestEndless(unittest.TestCase):

    def test_up(self):
        code = Code("either", 2, "up below root\nswap\nend")
        done = play(code, [(1, 1), (2, 2)], 1)
        # The list is met a second time behind two exchanges; this station is noted, too.
        self.assertEqual((done.ended, done.broken), ("endless", ("ends",)))
        self.assertEqual(done.stations(), ((1, 0, False, None),) * 3)
        self.assertEqual(done.left, ((1, 1), (2, 2)))
        self.assertEqual((done.lines(), done.sides()), ((1, 2), ((1, True),)))

    def test_down(self):
        code = Code("either", 2, "down has 1\npick 1\nswap\nend")
        done = play(code, [(1, 1), (2, 2)], 0)
        # No mate, then child 1 twice with the list turned over and once as it was.
        self.assertEqual((done.ended, len(done.stations())), ("endless", 4))
        self.assertEqual(done.left, ((2, 2), (1, 1)))

    def test_comparisons_up_to_the_end_count(self):
        code = Code("either", 2, "grab\nup at <= hand\nend")
        done = play(code, [(1, 1)], 0)
        self.assertEqual((done.ended, done.compares, done.sides()), ("endless", 1, ((2, True),)))
        self.assertEqual(done.stations(), ((2, 0, True, 0), (2, 0, True, 0)))

    def test_another_mate_is_another_sight(self):
        code = Code("either", 2, "down has 2\npick 2\nif mate < at\npick 1\nend\nend")
        done = play(code, [(5, 1), (1, 2), (2, 3)], 0)
        self.assertEqual((done.ended, len(done.stations()), done.compares), ("endless", 3, 2))

    def test_a_loop_that_moves_is_not_endless(self):
        code = Code("either", 2, "up below root\ngo\nend")
        done = play(code, [(1, 1), (1, 2), (1, 3), (1, 4)], 3)
        self.assertEqual((done.ended, done.stations()[-1]), ("done", (1, 2, True, None)))


class TestValues(unittest.TestCase):

    def test_names_of_the_arguments_and_tuples(self):
        code = Code("out", 2, "tell\nshorter")
        done = play(code=code, items=((1, 1), (2, 2)), start=1, given=None)
        self.assertEqual((done.left, done.told, done.broken), (((1, 1),), (2, 2), ()))

    def test_the_list_that_is_handed_in_stays(self):
        items = [(1, 1), (2, 2)]
        play(Code("either", 2, "down has 1\npick 1\nswap\nstop\nend"), items, 0)
        self.assertEqual(items, [(1, 1), (2, 2)])

    def test_each_table_is_a_new_one(self):
        done = play(Code("either", 2, ""), [(1, 1)], 0)
        done.table()[1] = 7
        self.assertEqual(done.table(), {1: 0})

    def test_integers_of_any_size(self):
        big = 10 ** 40
        done = play(Code("put", 2, UP), [(big, -big)], given=(-big, big))
        self.assertEqual(done.left, ((-big, big), (big, -big)))

    def test_long_lists(self):
        code = Code("put", 3, "longer\nup below root and at < mate\nswap\ngo\nend")
        done = play(code, [(place, place) for place in range(900)], given=(-1, 900))
        self.assertEqual((done.left[0], done.compares, len(done.stations())), ((-1, 900), 6, 7))


if __name__ == "__main__":
    unittest.main()
