"""Lists whose length is within two of the end of a full level, where `has` with less and more answers differently."""

import unittest

from heapcode.answers import ASKED
from heapcode.codes import Code
from heapcode.play import play
from heapcode.search import Search
from heapcode.sizes import OneSize
from heapcode.uses import used_sides
from heapcode.verdicts import keeps, least_case
from tests.small_lists import first_places
from tests.symbols import events
from tests.texts import least_kid

ENDS = {2: (1, 3, 7, 15), 3: (1, 4, 13)}
WORDS = (("", 0), (" less", -1), (" more", 1))


def sizes_of(width):
    return sorted({size for end in ENDS[width] for size in range(end - 2, end + 3) if size >= 0})


def asking(width):
    """Lines of a down loop that ask all that can be asked of children, and go to any child that is there."""
    lines = ["down has 1 more"]
    for number in range(1, width + 1):
        for word, _ in WORDS:
            lines += [f"if has {number}{word}", "end"]
    for number in range(1, width + 1):
        lines += [f"if has {number} and at <= hand", f"pick {number}", "end"]
    return lines + ["if has 1", "go", "else", "stop", "end", "end"]


class TestPlays(unittest.TestCase):

    def test_each_place_of_each_length(self):
        for width in (2, 3):
            for size in sizes_of(width):
                items = [(0, place) for place in range(size)]
                for place in range(size):
                    for number in range(1, width + 1):
                        for word, shift in WORDS:
                            code = Code("tree", width, f"down has {number}{word}\nstop\nend")
                            answer = width * place + number < size + shift
                            self.assertEqual(play(code, items, place).sides(), ((1, answer),))


class TestSearch(unittest.TestCase):

    def check(self, code, sizes):
        for size in sizes:
            found = set()
            for aspect, promises in ASKED.items():
                search = Search(code, OneSize(code.kind, code.width, size), aspect, promises)
                search.run()
                found |= set(search.found)
            if first_places(code.kind, size):
                self.assertEqual(found, events(code, size), (code.kind, code.width, code.text, size))

    def test_all_that_can_be_asked(self):
        for width in (2, 3):
            sizes = [size for size in sizes_of(width) if size < 16]
            for kind, head, tail in (
                    ("take", ["grab last", "shorter"], []), ("take", ["grab last"], ["shorter"]), ("top", ["grab"], []),
                    ("put", ["longer", "grab"], []), ("put", ["grab given"], [])):
                self.check(Code(kind, width, "\n".join(head + asking(width) + tail)), sizes)

    def test_starts_anywhere(self):
        for width in (2, 3):
            sizes = [size for size in sizes_of(width) if size < 10]
            for kind, head in (("out", ["grab last", "shorter"]), ("out", ["grab last"]), ("either", ["grab"])):
                self.check(Code(kind, width, "\n".join(head + asking(width))), sizes)


class TestVerdicts(unittest.TestCase):

    def sift(self, width, less, more=""):
        """Taking with a list shortened behind the loop, where the loop looks at children in two ways."""
        lines = ["tell", "grab last", f"down has 1{more}"] + least_kid(width, less)
        lines += ["if mate < hand", "pull", "go", "else", "stop", "end", "end", "shorter", "if inside", "lay", "end"]
        return Code("take", width, "\n".join(lines))

    def test_the_last_place_and_the_one_behind(self):
        for width in (2, 3, 4):
            for less in ("", " less"):
                self.assertTrue(keeps(self.sift(width, less, less), "order"))
                self.assertTrue(keeps(self.sift(width, less, less), "items"))
            # Behind the last place there is none: it is looked at first where the place 0 has no child at all.
            self.assertEqual(len(least_case(self.sift(width, "", " more"), "inside")[0]), 1)
            # The place 0 has its last child when there is one item more than children.
            self.assertEqual(len(least_case(self.sift(width, " more"), "inside")[0]), 2)

    def test_sides_that_only_some_lengths_have(self):
        for width in (2, 3, 4):
            for number in range(1, width + 1):
                text = f"down has {number} more and not has {number}\nquit\nend"
                # For trees the number of children can be any; at the new place of put it is none.
                self.assertEqual(used_sides(Code("tree", width, text)), ((1, False), (1, True)))
                self.assertEqual(used_sides(Code("put", width, text)), ((1, False),))
                expected = ((2, False), (2, True)) if number == 1 else ((2, False),)
                self.assertEqual(used_sides(Code("put", width, "longer\n" + text)), expected)
                text = f"down has {number} and not has {number} less\nquit\nend"
                case = least_case(Code("tree", width, text.replace("quit", "pick 1\npull\ngo\nlay")), "inside")
                self.assertEqual(len(case[0]), number + 1)


if __name__ == "__main__":
    unittest.main()
