"""What the lines and tests say when they are read: what the plays of a code go by."""

import unittest

from heapcode.parts import read_test
from heapcode.rows import read_rows


def told(lines, width=2):
    """What the rows of the lines say."""
    return [(row.word, row.place, row.number, row.test) for row in read_rows(lines, width)]


class TestReading(unittest.TestCase):

    def test_comparisons(self):
        self.assertEqual(read_test("hand < at", "top", 2), ((True, "<", ("hand", 0), ("at", 0)),))
        self.assertEqual(read_test("given <= hand", "top", 2), ((True, "<=", ("given", 0), ("hand", 0)),))
        self.assertEqual(read_test("not kid 4 < kid 1", "down", 4), ((False, "<", ("kid", 4), ("kid", 1)),))
        self.assertEqual(read_test("mate <= kid 2", "down", 2), ((True, "<=", ("mate", 0), ("kid", 2)),))

    def test_other_parts(self):
        self.assertEqual(read_test("has 2", "down", 2), ((True, "has", 2, ""),))
        self.assertEqual(read_test("not has 1 less", "down", 2), ((False, "has", 1, "less"),))
        self.assertEqual(read_test("has 3 more", "down", 3), ((True, "has", 3, "more"),))
        for word in ("inside", "below root", "below start"):
            self.assertEqual(read_test(word, "up", 2), ((True, word, None, None),))

    def test_parts_keep_their_order(self):
        self.assertEqual(
            read_test("has 2 and not inside and kid 2 < at", "down", 2),
            ((True, "has", 2, ""), (False, "inside", None, None), (True, "<", ("kid", 2), ("at", 0))))

    def test_what_is_no_test_is_none(self):
        for text in ("", "hand", "inside and hand", "kid 3 < at"):
            self.assertIsNone(read_test(text, "down", 2))

    def test_rows(self):
        inside = ((True, "inside", None, None),)
        self.assertEqual(
            told(["grab last", "if inside", "down inside", "if inside", "pick 2", "else", "end", "end", "end"]),
            [
                ("grab last", "top", None, ()), ("if", "top", None, inside), ("down", "down", None, inside),
                ("if", "down", None, inside), ("pick", "down", 2, ()), ("else", "down", None, ()),
                ("end", "down", None, ()), ("end", "down", None, ()), ("end", "top", None, ()),
            ])
        self.assertEqual(told(["up inside", "note mate", "end", "to start"]), [
            ("up", "up", None, inside), ("note mate", "up", None, ()), ("end", "up", None, ()),
            ("to start", "top", None, ()),
        ])
        self.assertEqual(told([]), [])


if __name__ == "__main__":
    unittest.main()
