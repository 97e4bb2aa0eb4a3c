"""Right codes of all kinds, in several forms and of all widths; and what one line less does to them."""

import unittest

from heapcode.play import play
from heapcode.uses import used_lines
from heapcode.verdicts import kept, least_case, mends
from tests.texts import RIGHT, code_or_none, right_codes

PROMISES = ("inside", "ends", "items", "order", "told", "places")


class TestRightCodes(unittest.TestCase):

    def test_with_notes_all_promises_are_kept(self):
        for width in (2, 3, 4):
            for code in right_codes(width, True):
                self.assertEqual(kept(code), PROMISES, (code.kind, width, code.text))
                for promise in PROMISES:
                    self.assertIsNone(least_case(code, promise))

    def test_without_notes_all_but_places(self):
        for width in (2, 3, 4):
            for code in right_codes(width, False):
                self.assertEqual(kept(code), PROMISES[:5], (code.kind, width, code.text))
                self.assertEqual(play(code, *least_case(code, "places")).broken, ("places",))

    def test_all_lines_are_used(self):
        for width in (2, 3):
            for code in right_codes(width, True):
                lines = [line for line in range(1, len(code) + 1) if code[line] not in ("else", "end")]
                self.assertEqual(used_lines(code), tuple(lines), code.text)

    def test_what_they_mend(self):
        for width in (2, 3):
            for code in right_codes(width, False, ("either",)):
                self.assertEqual(mends(code), ("either", "above", "below"), code.text)
            for code in right_codes(width, False, ("above",)):
                self.assertEqual(mends(code), ("above",), code.text)
            for code in right_codes(width, False, ("below", "tree")):
                self.assertEqual(mends(code), ("below", "tree"), code.text)

    def test_without_one_line_that_does_something_a_promise_is_broken(self):
        # What is noted again behind it, or laid where it lies, does nothing; all else is missed.
        idle = ("note", "note mate", "lay", "grab", "tell", "else", "end", "quit", "stop")
        for kind in RIGHT:
            for code in right_codes(2, True, (kind,)):
                for line in range(1, len(code) + 1):
                    if code[line].startswith(("if", "down", "up")) or code[line] in idle:
                        continue
                    lines = code.text.split("\n")
                    del lines[line - 1]
                    slip = code_or_none(kind, 2, lines)
                    if slip is not None:
                        self.assertNotEqual(kept(slip), PROMISES, (kind, line, code.text))


if __name__ == "__main__":
    unittest.main()
