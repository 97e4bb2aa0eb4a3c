"""Where a play goes on behind each row, and what may come behind a loop."""

import unittest

from heapcode.ahead import goes_home, last_row_with_given, turning_loops, ways_back
from heapcode.codes import Code


def flow(kind, *lines):
    return Code(kind, 2, "\n".join(lines)).flow


class TestFlow(unittest.TestCase):

    def test_ifs(self):
        found = flow("take", "if inside", "tell", "else", "if inside", "else", "note", "end", "end", "quit")
        self.assertEqual(found.size, 9)
        self.assertEqual([found.after[at] for at in (0, 1, 3, 5)], [1, 8, 8, 8])
        self.assertEqual([found.other[at] for at in (0, 3)], [3, 5])
        found = flow("take", "if inside", "end", "if inside", "else", "end")
        self.assertEqual([found.after[0], found.other[0], found.after[2], found.other[2]], [2, 2, 5, 5])

    def test_loops(self):
        found = flow("take", "down inside", "if has 1", "stop", "end", "end", "note")
        self.assertEqual([found.after[at] for at in (0, 1, 2, 5)], [1, 2, 0, 6])
        self.assertEqual([found.other[at] for at in (0, 1)], [5, 0])
        self.assertEqual(found.loop_of, (0, 0, 0, 0, 0, -1))
        found = flow("take", "up inside", "end")
        self.assertEqual((found.after[0], found.other[0]), (0, 2))


class TestAhead(unittest.TestCase):

    def test_what_comes_behind_a_loop(self):
        found = flow("out", "down inside", "end", "if inside", "to start", "up inside", "go", "end", "quit", "end",
                     "up inside", "go", "if inside", "go", "end", "end")
        self.assertTrue(goes_home(found, 0))
        self.assertEqual(turning_loops(found, 0), [9])
        self.assertEqual(ways_back(found, 0), [10, 12])
        for loop in (4, 9):
            self.assertEqual((goes_home(found, loop), turning_loops(found, loop), ways_back(found, loop)), (False, [], []))

    def test_nothing_comes_behind_a_quit(self):
        found = flow("put", "down inside", "end", "quit", "up inside", "go", "end")
        self.assertEqual((goes_home(found, 0), turning_loops(found, 0)), (False, []))

    def test_the_last_row_with_the_given_item(self):
        self.assertEqual(last_row_with_given(flow("put", "grab given", "note")), -1)
        self.assertEqual(last_row_with_given(flow("put", "if inside and given < at", "end", "note")), 0)


if __name__ == "__main__":
    unittest.main()
