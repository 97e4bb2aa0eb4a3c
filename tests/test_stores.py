"""Point [21]: stores, and building by a code for trees."""

import random
import unittest

from heapcode.codes import Code
from heapcode.errors import BadCase, BadItem, BadKind, BadName, BadWidth, NoDeed, NothingToUndo
from heapcode.items import is_heap
from heapcode.play import Play, play
from heapcode.stores import Store, build
from tests.asking import KINDS, VALUES, error_of
from tests.second import Second, broken_by, read
from tests.small_lists import first_place
from tests.texts import LEAST, RIGHT, SIFT, UP, noted, slipped_codes
from tests.wild_texts import wild_codes

PUT, TAKE = Code("put", 2, UP), Code("take", 2, LEAST)
SIFTED = Code("tree", 2, "grab\n" + SIFT + "lay")
BEYOND, ENDLESS = Code("put", 2, "lay"), Code("take", 2, "tell\ndown inside\nend")
DOUBLE = Code("take", 2, "grab last\nlay")


def right(kind, width, at=0, notes=True):
    """One of the right codes."""
    return Code(kind, width, "\n".join(noted(list(RIGHT[kind](width))[at], notes)))


class Deed(Second):
    """The plain second player with a table from marks to places that was there before."""

    def __init__(self, old, *rest):
        self.table = dict(old)
        super().__init__(*rest)

    def begin(self, things):
        self.things = list(things)

    def enter(self, thing, place):
        self.table[thing[1]] = place

    def entry(self, thing):
        return self.table.get(thing[1])


class Plain:
    """A plain store, which keeps all that ever was."""

    def __init__(self, width, codes, items):
        self.width, self.codes = width, codes
        self.past = [(tuple(items), {item[1]: place for place, item in enumerate(items)})]

    def do(self, name, start, given):
        code = self.codes[name]
        items, table = self.past[-1]
        place = first_place(code.kind, items, start)
        found = Deed(table, self.width, read(code.text), items, place, given)
        broken = broken_by(code.kind, self.width, items, place, given, found)
        if found.ended == "done":
            self.past.append((tuple(found.things), found.table))
        return found, broken


def seen(store):
    return store.present(), store.table(), len(store), store.undoable()


class TestStores(unittest.TestCase):

    def test_the_document(self):
        store = Store(2, {"put": PUT, "take": TAKE}, [(1, 1)])
        found = [
            store.do("put", given=(5, 2)).ended, store.do("put", given=(0, 3)).left, store.do("take").told,
            store.undoable(), store.undo(), store.present()]
        self.assertEqual(found, ["done", ((0, 3), (5, 2), (1, 1)), (0, 3), 3, None, ((0, 3), (5, 2), (1, 1))])

    def test_a_new_store(self):
        for width in (2, 3, 4):
            for items in ((), [], [(3, 5)], ((3, 5), (1, -7), (3, 0))):
                store = Store(width, {}, items)
                self.assertEqual(store.width, width)
                self.assertEqual(seen(store), (tuple(items), {item[1]: at for at, item in enumerate(items)}, len(items), 0))
        self.assertEqual(seen(Store(2, {})), ((), {}, 0, 0))

    def test_what_is_handed_in_is_copied(self):
        codes, items = {"put": PUT}, [(1, 1)]
        store = Store(2, codes, items)
        codes["take"] = TAKE
        del codes["put"]
        items.append((9, 9))
        self.assertEqual(store.present(), ((1, 1),))
        self.assertIsInstance(error_of(store.do, "take"), NoDeed)
        self.assertEqual(store.do("put", None, (2, 2)).left, ((1, 1), (2, 2)))

    def test_what_is_returned_is_new(self):
        store = Store(2, {"put": PUT}, [(1, 1)])
        done = store.do("put", given=(2, 2))
        for table in (store.table, done.table):
            table().clear()
        self.assertEqual(store.table(), {1: 0})
        self.assertEqual(done.table(), {1: 0})

    def test_a_deed_returns_its_play(self):
        codes = {"put": right("put", 2), "take": right("take", 2), "top": right("top", 2)}
        store = Store(2, codes, [(1, 10), (3, 11), (2, 12), (3, 13), (5, 14)])
        for name, given in (("put", (0, 15)), ("take", None), ("top", (4, 16))):
            one = play(codes[name], store.present(), None, given)
            found = store.do(name, None, given)
            self.assertIsInstance(found, Play)
            for word in ("ended", "left", "told", "compares", "broken"):
                self.assertEqual(getattr(found, word), getattr(one, word), word)
            self.assertEqual((found.lines(), found.sides(), found.stations()), (one.lines(), one.sides(), one.stations()))
            self.assertEqual((store.present(), store.table()), (found.left, found.table()))

    def test_names_may_be_any_strings(self):
        store = Store(2, {"": PUT, "put it in\n~": PUT})
        self.assertEqual([store.do("", None, (1, 1)).ended, store.do("put it in\n~", None, (1, 2)).ended], ["done"] * 2)

    def test_the_empty_list(self):
        store = Store(2, {"put": PUT, "take": TAKE, "top": right("top", 2), "out": right("out", 2), "tree": SIFTED})
        for name, given in (("take", None), ("top", (1, 1))):
            error = error_of(store.do, name, None, given)
            self.assertIsInstance(error, BadCase)
            self.assertEqual(error.what, "items")
        for name in ("out", "tree"):
            for start in (0, None, -1):
                self.assertEqual(error_of(store.do, name, start).what, "start")
        self.assertEqual(seen(store), ((), {}, 0, 0))
        store.do("put", None, (1, 1))
        self.assertEqual(store.do("take").left, ())
        self.assertEqual(error_of(store.do, "take").what, "items")
        self.assertEqual(store.undoable(), 2)

    def test_deeds_that_are_not_done_change_nothing(self):
        codes = {"beyond": BEYOND, "endless": ENDLESS, "put": PUT, "late": Code("put", 2, "longer\nnote\ndown inside\npull\nend")}
        store = Store(2, codes, [(2, 1)])
        store.do("put", None, (1, 2))
        before = seen(store)
        for name, given, ended, broken in (
                ("beyond", (0, 3), "beyond", ("inside",)), ("endless", None, "endless", ("ends",)),
                ("late", (0, 3), "beyond", ("inside",))):
            found = store.do(name, None, given)
            self.assertEqual((found.ended, found.broken), (ended, broken))
            self.assertEqual(seen(store), before)
        self.assertEqual(found.left, ((1, 2), (2, 1), (0, 3)))
        self.assertEqual(found.table(), {1: 0, 3: 2})
        self.assertIsNone(store.undo())
        self.assertEqual(seen(store), (((2, 1),), {1: 0}, 1, 0))

    def test_undo_down_to_nothing_and_one_more(self):
        store = Store(3, {"put": right("put", 3), "take": right("take", 3)})
        states = [seen(store)]
        for key in (5, 2, 7, 1, 3, 3):
            store.do("put", None, (key, 10 + len(states)))
            states.append(seen(store))
            if key == 7:
                store.do("take")
                states.append(seen(store))
        while len(states) > 1:
            self.assertEqual(seen(store), states.pop())
            self.assertIsNone(store.undo())
        for _ in range(2):
            self.assertEqual(seen(store), states[0])
            self.assertIsInstance(error_of(store.undo), NothingToUndo)
        store.do("put", None, (0, 0))
        self.assertEqual(store.undoable(), 1)

    def test_deeds_behind_an_undo(self):
        store = Store(2, {"put": PUT}, [(5, 1)])
        store.do("put", None, (4, 2))
        store.undo()
        # The mark is free again.
        self.assertEqual(store.do("put", None, (6, 2)).left, ((5, 1), (6, 2)))
        store.do("put", None, (1, 3))
        store.undo()
        self.assertEqual(seen(store), (((5, 1), (6, 2)), {1: 0}, 2, 1))
        store.undo()
        self.assertEqual(seen(store), (((5, 1),), {1: 0}, 1, 0))


class TestTheTable(unittest.TestCase):

    def test_it_goes_on_from_deed_to_deed(self):
        # These codes do not note, so the table tells of the start of the store for ever.
        store = Store(2, {"put": PUT, "take": TAKE}, [(1, 1), (2, 2)])
        self.assertEqual(store.do("put", None, (0, 3)).broken, ("places",))
        self.assertEqual(store.table(), {1: 0, 2: 1})
        # What is left is in order, and the table is right for it by chance.
        self.assertEqual(store.do("take").broken, ())
        self.assertEqual(store.present(), ((1, 1), (2, 2)))
        self.assertEqual(store.table(), {1: 0, 2: 1})

    def test_an_item_that_leaves_keeps_its_entry(self):
        store = Store(2, {"put": right("put", 2), "take": right("take", 2), "bare": PUT}, [(1, 7)])
        store.do("put", None, (0, 8))
        self.assertEqual(store.table(), {7: 1, 8: 0})
        self.assertEqual(store.do("take").told, (0, 8))
        self.assertEqual(store.table(), {7: 0, 8: 0})
        # When the mark comes back its old entry counts: here it is wrong, there it is right.
        self.assertEqual(store.do("bare", None, (5, 8)).broken, ("places",))
        store.undo()
        store.do("take")
        self.assertEqual((store.present(), store.table()), ((), {7: 0, 8: 0}))
        self.assertEqual(store.do("bare", None, (5, 8)).broken, ())
        self.assertEqual(store.do("bare", None, (9, 9)).broken, ("places",))

    def test_a_play_keeps_its_table(self):
        store = Store(2, {"put": right("put", 2), "take": right("take", 2)})
        plays, tables = [], []
        for key in range(60):
            plays.append(store.do("put", None, (-key, key)) if key % 3 else store.do("put", None, (key, key)))
            tables.append(store.table())
            if key % 5 == 0:
                plays.append(store.do("take"))
                tables.append(store.table())
        for _ in range(30):
            store.undo()
        store.do("take")
        self.assertEqual([found.table() for found in plays], tables)


class TestListsThatAreNoHeaps(unittest.TestCase):

    def test_a_store_does_not_ask_for_a_heap(self):
        store = Store(2, {"put": PUT, "take": TAKE, "tree": SIFTED}, [(3, 1), (1, 2), (2, 3)])
        self.assertEqual(store.do("put", None, (0, 4)).left, ((0, 4), (3, 1), (2, 3), (1, 2)))
        store.undo()
        # The item of the place 0 is told, which is not the least one.
        found = store.do("take")
        self.assertEqual((found.told, found.left, found.broken), ((3, 1), ((1, 2), (2, 3)), ("told", "places")))
        store.undo()
        found = store.do("tree", 0)
        self.assertEqual((found.left, found.broken), (((1, 2), (3, 1), (2, 3)), ("places",)))

    def test_promises_are_asked_in_the_same_way(self):
        store = Store(2, {"put": Code("put", 2, "longer\nnote"), "quit": Code("either", 2, "quit")}, [(3, 1), (1, 2)])
        self.assertEqual(store.do("put", None, (5, 3)).broken, ("order",))
        self.assertEqual(store.do("quit", 0).broken, ("order",))
        self.assertEqual(store.do("quit", 2).broken, ("order",))

    def test_an_item_twice(self):
        store = Store(2, {"double": DOUBLE, "put": PUT, "quit": Code("below", 2, "quit")}, [(1, 1), (2, 2)])
        self.assertEqual(store.do("double").broken, ("items",))
        self.assertEqual((store.present(), store.table()), (((2, 2), (2, 2)), {1: 0, 2: 1}))
        # The items stay the same, but the table tells one place for the two.
        self.assertEqual(store.do("quit", 0).broken, ("places",))
        self.assertEqual(store.do("put", None, (0, 1)).left, ((0, 1), (2, 2), (2, 2)))
        self.assertEqual(error_of(store.do, "put", None, (0, 2)).what, "given")
        for _ in range(3):
            store.undo()
        self.assertEqual(store.present(), ((1, 1), (2, 2)))


class TestLongTimes(unittest.TestCase):

    def test_many_deeds(self):
        store = Store(2, {"put": right("put", 2), "take": right("take", 2, 1)})
        keys, chance, last = [], random.Random(71), None
        for mark in range(3000):
            if keys and (len(keys) > 60 or chance.random() < 0.4):
                found = store.do("take")
                self.assertEqual(found.told[0], min(keys))
                keys.remove(min(keys))
            else:
                keys.append(chance.randrange(50))
                found = store.do("put", None, (keys[-1], mark))
            self.assertEqual((found.ended, found.broken), ("done", ()))
            last = last or (mark == 1500 and seen(store))
        self.assertEqual(sorted(key for key, _ in store.present()), sorted(keys))
        self.assertGreater(len(store.table()), 1000)
        while store.undoable() > 1501:
            store.undo()
        self.assertEqual(seen(store), last)
        while store.undoable():
            store.undo()
        self.assertEqual(seen(store), ((), {}, 0, 0))

    def test_few_items_and_many_deeds(self):
        # What is kept for the tables does not grow with the deeds, for then each table would take longer to tell.
        store = Store(2, {"note": Code("either", 2, "note")}, [(1, 1), (2, 2), (3, 3)])
        for at in range(500):
            found = store.do("note", at % 3)
            self.assertEqual(found.table(), {1: 0, 2: 1, 3: 2})
            self.assertLess(store._table.depth, 10)
        while store.undoable():
            store.undo()
        self.assertEqual(store.table(), {1: 0, 2: 1, 3: 2})

    def test_against_a_plain_store(self):
        chance = random.Random(72)
        for _ in range(60):
            width = chance.choice((2, 3, 4))
            codes = slipped_codes(chance, 5, (width,)) + wild_codes(chance, 3, (width,))
            codes = {str(at): code for at, code in enumerate(codes + [right("put", width), right("take", width)])}
            items = [(chance.randrange(9), mark) for mark in chance.sample(range(40), chance.randrange(8))]
            self.check(chance, width, codes, items)

    def check(self, chance, width, codes, items):
        store, plain = Store(width, codes, items), Plain(width, codes, items)
        for _ in range(60):
            if len(plain.past) > 1 and chance.random() < 0.25:
                store.undo()
                plain.past.pop()
            else:
                self.check_deed(chance, store, plain, chance.choice(list(codes)))
            self.assertEqual((store.present(), store.table()), plain.past[-1])
            self.assertEqual((len(store), store.undoable()), (len(store.present()), len(plain.past) - 1))

    def check_deed(self, chance, store, plain, name):
        code, count = plain.codes[name], len(store)
        if code.kind != "put" and not count:
            return
        start = None if code.kind in ("put", "take", "top") else chance.randrange(count)
        free = sorted(set(range(40)) - {mark for _, mark in store.present()})
        given = (chance.randrange(9), chance.choice(free)) if code.kind in ("put", "top") else None
        found = store.do(name, start, given)
        one, broken = plain.do(name, start, given)
        where = (code.kind, code.width, code.text, store.present(), start, given)
        self.assertEqual((found.ended, found.left, found.told), (one.ended, tuple(one.things), one.told), where)
        self.assertEqual((found.broken, found.table()), (broken, one.table), where)


class TestErrors(unittest.TestCase):

    def test_widths(self):
        for value in VALUES + (1, 6, 2.0, "2"):
            error = error_of(Store, value, {1: PUT}, [3])
            self.assertIsInstance(error, BadWidth)
            self.assertIs(error.width, value)

    def test_names(self):
        for codes, name in (
                ({"a": PUT, 5: PUT, "b": 3}, 5), ({"a": PUT, "b": 3, 5: PUT}, "b"), ({"x": UP}, "x"), ({None: PUT}, None),
                ({"a": Code("put", 3, "")}, "a"), ({b"a": PUT}, b"a"), ({("a",): PUT}, ("a",)), ({"a": None}, "a")):
            error = error_of(Store, 2, codes, [3])
            self.assertIsInstance(error, BadName)
            self.assertEqual(error.name, name)

    def test_items(self):
        for items, index in (
                ([3], 0), ([(1, 1), (2, 1)], 1), ([(1, 1), [2, 2]], 1), ([(1, 1), (2, 2), (True, 3)], 2), ([(1,)], 0),
                ([(1, 2, 3)], 0), ([(1, 1), None], 1), ([(1, 1.0)], 0), ([("1", 1)], 0)):
            for call, first in ((Store, (2, {"put": PUT})), (build, (SIFTED,))):
                error = error_of(call, *first, items)
                self.assertIsInstance(error, BadItem)
                self.assertEqual(error.index, index)

    def test_deeds_without_a_code(self):
        store = Store(2, {"put": PUT, "take": TAKE}, [(1, 1)])
        for value in VALUES + ("Put", "out", ["take"], {}):
            error = error_of(store.do, value, 5, 5)
            self.assertIsInstance(error, NoDeed)
            self.assertIs(error.name, value)

    def test_starts_and_given_items(self):
        codes = {kind: Code(kind, 2, "quit") for kind in KINDS}
        store = Store(2, codes, [(1, 1), (2, 2)])
        before = seen(store)
        for kind in KINDS:
            starts = (-1, 2, None, True, "0", 0.0, [0]) if kind not in ("put", "take", "top") else (0, 1, False, "", (0,))
            for start in starts:
                error = error_of(store.do, kind, start, 5)
                self.assertIsInstance(error, BadCase)
                self.assertEqual(error.what, "start")
            start = None if kind in ("put", "take", "top") else 1
            wrong = (None, (3, 1), [3, 3], (3,), 3, (3, True)) if kind in ("put", "top") else ((3, 3), 0, False, "")
            for given in wrong:
                error = error_of(store.do, kind, start, given)
                self.assertIsInstance(error, BadCase)
                self.assertEqual(error.what, "given")
        self.assertEqual(seen(store), before)

    def test_the_order(self):
        store = Store(2, {"top": right("top", 2)})
        self.assertEqual(error_of(store.do, "top", 0, 0).what, "start")
        self.assertEqual(error_of(store.do, "top", None, 0).what, "given")
        self.assertEqual(error_of(store.do, "top", None, (0, 0)).what, "items")

    def test_by_name(self):
        store = Store(items=[(2, 1)], codes={"put": PUT, "tree": SIFTED}, width=2)
        self.assertEqual(store.do(given=(1, 2), name="put").left, ((1, 2), (2, 1)))
        self.assertEqual(store.do(name="tree", start=0).ended, "done")
        self.assertEqual(build(items=[(2, 1), (1, 2)], code=SIFTED), ((1, 2), (2, 1)))

    def test_a_store_is_not_iterated_over(self):
        self.assertRaises(TypeError, iter, Store(2, {}))


class TestBuild(unittest.TestCase):

    def test_the_document(self):
        self.assertEqual(build(SIFTED, [(3, 1), (2, 2), (1, 3)]), ((1, 3), (2, 2), (3, 1)))

    def test_heaps_of_all_sizes(self):
        chance = random.Random(73)
        for width in (2, 3, 4):
            for at in range(3):
                code = right("tree", width, at)
                for count in list(range(30)) + [63, 64, 65, 200]:
                    items = [(chance.randrange(20), mark) for mark in range(count)]
                    found = build(code, items)
                    self.assertIsInstance(found, tuple)
                    self.assertEqual(sorted(found), sorted(items))
                    self.assertTrue(is_heap(found, width))

    def test_each_parent_once_from_the_last_one(self):
        # Each play exchanges the items of its start and of the first child there.
        code = Code("tree", 3, "down has 1\npick 1\nswap\nstop\nend")
        items = [(0, mark) for mark in range(11)]
        row = list(items)
        for place in (3, 2, 1, 0):
            row[place], row[3 * place + 1] = row[3 * place + 1], row[place]
        self.assertEqual(build(code, items), tuple(row))

    def test_places_without_children_are_no_starts(self):
        code = Code("tree", 2, "down inside\nif not has 1\npull\nend\npick 1\nswap\nstop\nend")
        self.assertEqual(build(code, [(1, 1), (2, 2), (3, 3), (4, 4)]), ((4, 4), (1, 1), (3, 3), (2, 2)))
        self.assertEqual(build(code, [(1, 1)]), ((1, 1),))

    def test_no_parent(self):
        code = Code("tree", 2, "down inside\nend")
        self.assertEqual(build(code, ()), ())
        self.assertEqual(build(code, [(1, 1)]), ((1, 1),))

    def test_a_play_that_is_not_done_ends_it(self):
        items = [(9, 0), (8, 1), (7, 2), (6, 3), (5, 4)]
        for text in ("lay", "down inside\nend"):
            self.assertEqual(build(Code("tree", 2, text), items), tuple(items))
        # At the place 1 it is done, at the place 0 it is not, and what that play has changed does not count.
        for end in ("pull", "go", "pick 2\ngo\ngo"):
            text = f"down has 1\npick 1\nswap\nif not below root\ngo\n{end}\nend\nstop\nend"
            self.assertEqual(build(Code("tree", 2, text), items), ((9, 0), (6, 3), (7, 2), (8, 1), (5, 4)))

    def test_a_list_that_is_none_of_the_kind(self):
        # Nothing is in order behind such plays, and they are played all the same.
        code = Code("tree", 2, "grab\ndown has 1\npick 1\npull\ngo\nend")
        items = [(9, 0), (8, 1), (7, 2), (6, 3), (5, 4), (4, 5)]
        self.assertEqual(build(code, items), ((6, 3), (6, 3), (4, 5), (6, 3), (5, 4), (4, 5)))

    def test_other_kinds(self):
        for kind in KINDS[:-1]:
            error = error_of(build, Code(kind, 2, ""), [3])
            self.assertIsInstance(error, BadKind)
            self.assertEqual(error.kind, kind)


if __name__ == "__main__":
    unittest.main()
