"""Points [1] to [3] over the whole program: the names of the interface, arguments by name, copies, and errors."""

import importlib
import inspect
import unittest

from heapcode.codes import Code
from heapcode.costs import most, worst
from heapcode.errors import HeapError
from heapcode.items import first_fault, is_heap
from heapcode.pairs import alike, parting_case
from heapcode.play import Play, play
from heapcode.stores import Store, build
from heapcode.uses import all_stations, case_for_line, case_for_side, case_for_station, used_lines, used_sides
from heapcode.verdicts import keeps, kept, least_case, mends
from tests.asking import error_of
from tests.texts import LEAST, SIFT, UP

EMPTY = inspect.Parameter.empty
# For each module its functions and classes with the names and defaults of their arguments.
INTERFACE = {
    "items": {"parent": "place width", "child": "place number width", "is_heap": "items width", "first_fault": "items width"},
    "codes": {"Code": "kind width text"},
    "play": {"play": "code items start=None given=None"},
    "verdicts": {"keeps": "code promise", "kept": "code", "least_case": "code promise", "mends": "code"},
    "uses": {
        "used_lines": "code", "used_sides": "code", "case_for_line": "code line", "case_for_side": "code line side",
        "all_stations": "code", "case_for_station": "code station"},
    "costs": {"most": "code n", "worst": "code n"},
    "pairs": {"alike": "code other", "parting_case": "code other"},
    "stores": {"Store": "width codes items=()", "build": "code items"},
}
METHODS = {
    ("codes", "Code"): {"as_kind": "kind", "__len__": "", "__getitem__": None, "__eq__": None},
    ("play", "Play"): {"table": "", "lines": "", "sides": "", "stations": ""},
    ("stores", "Store"): {
        "do": "name start=None given=None", "undo": "", "undoable": "", "present": "", "table": "", "__len__": ""},
}
UPS, LEASTS = Code("put", 2, UP), Code("take", 2, LEAST)


def arguments(call, skip=0):
    """The names and defaults of the arguments, as a string."""
    found = list(inspect.signature(call).parameters.values())[skip:]
    assert all(one.kind == inspect.Parameter.POSITIONAL_OR_KEYWORD for one in found)
    return " ".join(one.name + ("" if one.default is EMPTY else f"={one.default}") for one in found)


class TestNames(unittest.TestCase):

    def test_functions_and_classes(self):
        for module, names in INTERFACE.items():
            found = importlib.import_module(f"heapcode.{module}")
            for name, expected in names.items():
                with self.subTest(f"{module}.{name}"):
                    self.assertEqual(arguments(getattr(found, name)), expected)
                    self.assertEqual(getattr(found, name).__module__, f"heapcode.{module}")
                    self.assertEqual(getattr(found, name).__name__, name)

    def test_methods_stand_in_their_classes(self):
        for (module, name), methods in METHODS.items():
            found = getattr(importlib.import_module(f"heapcode.{module}"), name)
            self.assertEqual(found.__module__, f"heapcode.{module}")
            for method, expected in methods.items():
                with self.subTest(f"{name}.{method}"):
                    self.assertIn(method, vars(found))
                    if expected is not None:
                        self.assertEqual(arguments(vars(found)[method], 1), expected)

    def test_attributes(self):
        found = play(LEASTS, [(1, 1)])
        self.assertEqual(
            [(word, hasattr(found, word)) for word in ("ended", "left", "told", "compares", "broken")],
            [(word, True) for word in ("ended", "left", "told", "compares", "broken")])
        self.assertEqual((UPS.kind, UPS.width, UPS.text, Store(4, {}).width), ("put", 2, UP, 4))

    def test_each_module_alone(self):
        for module in list(INTERFACE) + ["errors"]:
            self.assertTrue(importlib.import_module(f"heapcode.{module}"))


class TestArguments(unittest.TestCase):

    def test_by_name(self):
        code, sides = UPS, used_sides(code=UPS)
        self.assertEqual(keeps(promise="order", code=code), keeps(code, "order"))
        self.assertEqual(least_case(promise="places", code=code), least_case(code, "places"))
        self.assertEqual((kept(code=code), used_lines(code=code)), (kept(code), used_lines(code)))
        self.assertEqual(mends(code=Code(text="", width=2, kind="tree")), ())
        self.assertEqual(case_for_line(line=2, code=code), case_for_line(code, 2))
        self.assertEqual(case_for_side(side=True, line=2, code=code), case_for_side(code, 2, True))
        self.assertEqual(sides, ((2, False), (2, True)))
        station = all_stations(code=code)[0]
        self.assertEqual(case_for_station(station=station, code=code), case_for_station(code, station))
        self.assertEqual(play(given=(2, 3), start=None, items=[], code=code).left, ((2, 3),))
        self.assertEqual(code.as_kind(kind="put"), code)

    def test_lists_and_tuples(self):
        items = [(1, 1), (3, 2), (2, 3)]
        self.assertEqual(play(LEASTS, tuple(items)).left, play(LEASTS, items).left)
        self.assertEqual((is_heap(tuple(items), 2), first_fault(tuple(items), 2)), (True, None))
        self.assertEqual(Store(2, {}, items).present(), Store(2, {}, tuple(items)).present())
        sifted = Code("tree", 2, "grab\n" + SIFT + "lay")
        self.assertEqual(build(sifted, items), build(sifted, tuple(items)))
        # An item is a tuple.
        self.assertEqual(error_of(play, LEASTS, [[1, 1]]).index, 0)
        self.assertEqual(error_of(play, UPS, [], None, [1, 1]).what, "given")

    def test_true_and_false_are_no_integers(self):
        self.assertEqual(error_of(play, LEASTS, [(1, 1), (True, 2)]).index, 1)
        self.assertEqual(error_of(play, Code("out", 2, ""), [(1, 1)], False).what, "start")
        self.assertEqual(error_of(case_for_line, UPS, True).line, True)
        self.assertIs(error_of(Code, "put", True, "").width, True)

    def test_integers_of_any_size(self):
        big = 10 ** 60
        items = [(big, -big), (big + 1, big), (big, 0)]
        self.assertEqual(play(UPS, items, None, (-big, 7)).left, ((-big, 7), (big, -big), (big, 0), (big + 1, big)))
        self.assertEqual(Store(2, {"take": LEASTS}, items).do("take").told, (big, -big))
        self.assertEqual(play(LEASTS, items).left, ((big, 0), (big + 1, big)))


class TestWhatIsKept(unittest.TestCase):

    def test_what_is_handed_in_stays_as_it_is(self):
        items = [(3, 1), (2, 2), (1, 3)]
        sifted = Code("tree", 2, "grab\n" + SIFT + "lay")
        before = list(items)
        build(sifted, items)
        play(sifted, items, 0)
        store = Store(2, {"tree": sifted}, items)
        store.do("tree", 0)
        self.assertEqual(items, before)

    def test_what_is_returned_is_new(self):
        stations = all_stations(LEASTS)
        stations.clear()
        self.assertNotEqual(all_stations(LEASTS), [])
        found = play(LEASTS, [(1, 1)])
        found.table().clear()
        self.assertEqual(found.table(), {1: 0})
        told = worst(LEASTS, 5)[0]
        told.clear()
        self.assertNotEqual(worst(LEASTS, 5)[0], {})

    def test_kinds_of_what_is_returned(self):
        least = Code("take", 2, "tell")
        for case in (least_case(least, "items"), case_for_line(least, 1), parting_case(least, Code("take", 2, ""))):
            self.assertIsInstance(case, tuple)
            self.assertIsInstance(case[0], tuple)
            self.assertEqual(len(case), 3)
        for found in (kept(least), used_lines(least), used_sides(least), play(least, *case).broken, worst(least, 3)):
            self.assertIsInstance(found, tuple)
        for found in (keeps(least, "items"), alike(least, least), is_heap([], 2), least == least):
            self.assertIsInstance(found, bool)
        self.assertIs(type(most(least, 3)), int)

    def test_nothing_is_iterated_over(self):
        for found in (UPS, play(LEASTS, [(1, 1)]), Store(2, {})):
            self.assertRaises(TypeError, iter, found)

    def test_questions_may_be_asked_in_any_order(self):
        one, two = Code("take", 2, LEAST), Code("take", 2, LEAST)
        first = (most(one, 9), alike(one, two), kept(one), used_lines(one), worst(one, 9), least_case(one, "places"))
        second = (least_case(two, "places"), worst(two, 9), used_lines(two), kept(two), alike(two, one), most(two, 9))
        self.assertEqual(first, second[::-1])
        self.assertEqual(one, two)
        self.assertIsInstance(play(one, *first[-1]), Play)


class TestErrors(unittest.TestCase):

    def test_a_call_that_raises_an_error_changes_nothing(self):
        code = Code("take", 2, LEAST)
        asked = (kept(code), most(code, 9), used_sides(code))
        for call, values in (
                (keeps, ("sorted",)), (most, (0,)), (worst, (-1,)), (alike, (UPS,)), (mends, ()), (case_for_line, (0,)),
                (case_for_side, (99, True)), (parting_case, (Code("take", 3, ""),)), (play, ([], 5)), (code.as_kind, ())):
            if call == code.as_kind:
                self.assertIsInstance(error_of(call, "put"), HeapError)
            else:
                self.assertIsInstance(error_of(call, code, *values), HeapError, call.__name__)
        self.assertEqual((kept(code), most(code, 9), used_sides(code)), asked)
        self.assertEqual(code, Code("take", 2, LEAST))


if __name__ == "__main__":
    unittest.main()
