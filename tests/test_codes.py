"""The class Code: its values, its errors in their order, the examples of the document."""

import unittest

from heapcode.codes import Code
from heapcode.errors import BadKind, BadLine, BadWidth, HeapError, Refused, TooMany
from tests.asking import KINDS, VALUES, error_of, wrong

UP = "longer\nup below root and at < mate\nswap\ngo\nend"
SIFT = (
    "down has 1\npick 1\nif has 2 and kid 2 < kid 1\npick 2\nend\nif mate < hand\npull\ngo\nelse\nstop\nend\nend\n"
)
LEAST = "tell\ngrab last\nshorter\n" + SIFT + "if inside\nlay\nend"
RISE = "up below root and hand < mate\npull\ngo\nend\n"
ONE = (
    "tell\ngrab last\nshorter\ndown has 1\npick 1\nif mate < hand\npull\ngo\nelse\nstop\nend\nend\nif inside\nlay\nend"
)


class TestExamples(unittest.TestCase):

    def test_the_example_of_the_class(self):
        up = Code("put", 2, UP)
        least = Code("take", 2, LEAST)
        self.assertEqual(
            [len(up), up[2], len(least), up == up.as_kind("put")], [5, "up below root and at < mate", 18, True])

    def test_the_refused_example(self):
        error = error_of(Code, "take", 2, "tell\ngrab last\nshorter\nshorter")
        self.assertIsInstance(error, Refused)
        self.assertEqual(error.line, 4)

    def test_the_codes_of_the_other_examples(self):
        for kind, text in (
                ("take", ONE), ("below", "grab\n" + SIFT + "lay"), ("below", "grab\n" + RISE + "lay"),
                ("take", LEAST.replace("kid 2 < kid 1", "kid 2 <= kid 1")), ("tree", "grab\n" + SIFT + "lay")):
            self.assertEqual(Code(kind, 2, text).text, text)


class TestValues(unittest.TestCase):

    def test_each_kind_and_width(self):
        for kind in KINDS:
            for width in (2, 3, 4):
                code = Code(kind, width, "note")
                self.assertEqual((code.kind, code.width, code.text), (kind, width, "note"))
                self.assertEqual((len(code), code[1]), (1, "note"))

    def test_names_of_the_arguments(self):
        code = Code(text="lay", width=3, kind="out")
        self.assertEqual((code.kind, code.width, code.text), ("out", 3, "lay"))
        self.assertEqual(code.as_kind(kind="top").kind, "top")

    def test_a_text_without_signs_has_no_lines(self):
        for kind in KINDS:
            self.assertEqual(len(Code(kind, 2, "")), 0)

    def test_each_line_by_its_number(self):
        code = Code("take", 2, LEAST)
        self.assertEqual([code[k] for k in range(1, 19)], LEAST.split("\n"))

    def test_sixty_lines_are_not_too_many(self):
        code = Code("put", 2, "\n".join(["note"] * 59 + ["lay"]))
        self.assertEqual((len(code), code[59], code[60]), (60, "note", "lay"))

    def test_a_code_is_not_iterated_over(self):
        self.assertRaises(TypeError, iter, Code("put", 2, UP))
        self.assertRaises(TypeError, list, Code("put", 2, UP))


class TestEquality(unittest.TestCase):

    def test_kind_width_and_text_count(self):
        code = Code("put", 2, "lay\nnote")
        self.assertIs(code == Code("put", 2, "lay\nnote"), True)
        self.assertIs(code != Code("put", 2, "lay\nnote"), False)
        for other in (Code("top", 2, "lay\nnote"), Code("put", 3, "lay\nnote"), Code("put", 2, "note\nlay")):
            self.assertIs(code == other, False)
            self.assertIs(code != other, True)

    def test_values_of_other_kinds_are_not_equal(self):
        for value in (*VALUES, "lay", ("put", 2, "lay"), ["lay"]):
            self.assertIs(Code("put", 2, "lay") == value, False)


class TestAsKind(unittest.TestCase):

    def test_the_same_text_for_another_kind(self):
        code = Code("below", 3, "grab\n" + SIFT + "lay")
        for kind in KINDS:
            other = code.as_kind(kind)
            self.assertEqual((other.kind, other.width, other.text), (kind, 3, code.text))
            self.assertIs(other == Code(kind, 3, code.text), True)
        self.assertEqual(code.kind, "below")

    def test_errors_as_for_a_new_code(self):
        code = Code("take", 2, LEAST)
        for value in VALUES:
            error = error_of(code.as_kind, value)
            self.assertIsInstance(error, BadKind)
            self.assertIs(error.kind, value)
        for kind in ("put", "top", "either", "above", "below", "tree"):
            error = error_of(code.as_kind, kind)
            self.assertIsInstance(error, Refused)
            self.assertEqual(error.line, 2)
        self.assertIsNone(error_of(code.as_kind, "out"))


class TestErrors(unittest.TestCase):

    def test_no_kind(self):
        for value in (*VALUES, "settle", "put\n", "Put"):
            error = error_of(Code, value, 2, "note")
            with self.subTest(kind=value.__class__):
                self.assertIs(error.__class__, BadKind)
                self.assertIs(error.kind, value)

    def test_no_width(self):
        for value in (*VALUES, 1, "2", [2], (3,), -2, 10 ** 30):
            error = error_of(Code, "put", value, "note")
            with self.subTest(kind=value.__class__):
                self.assertIs(error.__class__, BadWidth)
                self.assertIs(error.width, value)

    def test_too_many_lines(self):
        for many in (61, 62, 200):
            error = error_of(Code, "put", 2, "\n".join(["note"] * many))
            self.assertIs(error.__class__, TooMany)
            self.assertEqual((error.what, error.many, error.most), ("lines", many, 60))

    def test_lines_of_no_word_are_counted_too(self):
        error = error_of(Code, "put", 2, "note" + "\n" * 60)
        self.assertEqual((error.what, error.many, error.most), ("lines", 61, 60))
        self.assertEqual(wrong("put", "note" + "\n" * 59), ("BadLine", 2))

    def test_the_first_of_several_errors(self):
        long_text = "\n".join(["tell tell"] * 61)
        both = "shorter\nlonger\nnonsense"
        for kind, width, text, error in (
                ("no", "no", long_text, BadKind), ("no", 2, both, BadKind), ("no", True, "", BadKind),
                ("put", "no", long_text, BadWidth), ("put", True, both, BadWidth), ("put", 5, "shorter", BadWidth),
                ("put", 2, long_text, TooMany), ("put", 2, "\n".join(["shorter"] * 61), TooMany),
                ("put", 2, both, BadLine), ("put", 2, "shorter\nif inside", BadLine), ("put", 2, "shorter", Refused)):
            with self.subTest(kind=kind, width=width, error=error.__name__):
                self.assertIs(error_of(Code, kind, width, text).__class__, error)
                self.assertRaises(HeapError, Code, kind, width, text)

    def test_a_line_that_is_none_goes_ahead_of_each_limit(self):
        self.assertEqual(wrong("take", "shorter", "shorter", "longer", "pull"), ("BadLine", 4))
        self.assertEqual(wrong("take", "shorter", "shorter", "longer", "lay"), ("Refused", 2))


if __name__ == "__main__":
    unittest.main()
