"""Codes: texts of lines for one kind of deed and one width."""

from heapcode.errors import BadKind, BadWidth, Refused, TooMany
from heapcode.flow import Flow
from heapcode.kinds import is_kind, is_width
from heapcode.limits import least_break
from heapcode.rows import read_rows

MOST_LINES = 60


class Code:
    """A code for one kind of deed and one width; it never changes."""

    def __init__(self, kind, width, text):
        if not is_kind(kind):
            raise BadKind(kind)
        if not is_width(width):
            raise BadWidth(width)
        lines = text.split("\n") if text else []
        if len(lines) > MOST_LINES:
            raise TooMany("lines", len(lines), MOST_LINES)
        rows = read_rows(lines, width)
        broken = least_break(kind, rows)
        if broken is not None:
            raise Refused(broken)
        self.kind = kind
        self.width = width
        self.text = text
        self.flow = Flow(rows)
        # What was found out about the code, so that no question is worked out again.
        self.memory = {}
        self._lines = tuple(lines)

    def __len__(self):
        return len(self._lines)

    def __getitem__(self, at):
        return self._lines[at - 1]

    def __iter__(self):
        raise TypeError("a code is not iterated over")

    def __eq__(self, other):
        return (isinstance(other, Code) and self.kind == other.kind
                and self.width == other.width and self.text == other.text)

    def as_kind(self, kind):
        """The code with the same text for another kind; raises the same errors as a new one."""
        return Code(kind, self.width, self.text)
