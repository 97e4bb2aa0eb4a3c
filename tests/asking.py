"""Helpers of the tests: what error a call raises, and texts made of rows."""

from heapcode.codes import Code
from heapcode.errors import HeapError

KINDS = ("put", "take", "top", "out", "either", "above", "below", "tree")
SETTLING = ("either", "above", "below", "tree")


class Same:
    """What says of itself that it equals everything."""

    def __eq__(self, other):
        return True


# Values of many kinds, for where the document allows values of any kind.
VALUES = (
    None, True, False, 0, -1, 5, 10 ** 5000, "", "put ", "PUT", b"put", [], ["put"], (), ("put",), (2,), {},
    {"put": 2}, 2.0, 1.5, {2}, object(), Same(), Code, len,
)


def error_of(call, *values, **named):
    """The error of the package that the call raises, or None."""
    try:
        call(*values, **named)
    except HeapError as error:
        return error
    return None


def wrong(kind, *lines, width=2):
    """None, or the name of the error and its line, for the code of the lines."""
    error = error_of(Code, kind, width, "\n".join(lines))
    return None if error is None else (error.__class__.__name__, error.line)
