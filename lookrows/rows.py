"""Rows: the files at which a reader looks, one after another."""

from lookrows.basics import is_count, is_name, refuse_strangers
from lookrows.errors import BadName, BadNumber


class Row:
    """A row of looks at files."""

    def __init__(self, files):
        for name in files:
            if not is_name(name):
                raise BadName(name)
        looks = tuple(files)
        self._looks = looks
        # The place of the last look at each file; a key that is set again keeps its place, so the first looks
        # give the order.
        self._last = {file: place for place, file in enumerate(looks)}
        self._first = {looks[place]: place for place in reversed(range(len(looks)))}

    @property
    def looks(self):
        """The files in the order of the looks."""
        return self._looks

    @property
    def files(self):
        """The different files in the order of their first looks."""
        return tuple(self._last)

    def __len__(self):
        return len(self._looks)

    def __contains__(self, x):
        return isinstance(x, str) and x in self._last

    def __iter__(self):
        raise TypeError("a row is not iterated over; its looks are")

    def __getitem__(self, at):
        """The file of a look, counting from 0."""
        if not is_count(at) or at >= len(self._looks):
            raise BadNumber(at)
        return self._looks[at]

    def __add__(self, other):
        """The looks of self, then those of other."""
        if not isinstance(other, Row):
            return NotImplemented
        return Row(self._looks + other._looks)

    def __mul__(self, other):
        """The row so many times."""
        if not is_count(other):
            raise BadNumber(other)
        return Row(self._looks * other)

    def __rmul__(self, other):
        return self * other

    def __neg__(self):
        """The row in the opposite order."""
        return Row(self._looks[::-1])

    def __eq__(self, other):
        return isinstance(other, Row) and self._looks == other._looks

    def before(self, a, b):
        """Whether some look at a precedes some look at b."""
        refuse_strangers((a, b), self._last)
        return self._first[a] < self._last[b]

    def __le__(self, other):
        """Whether both have the same files and other has all that self has of looks before looks at other files."""
        if not isinstance(other, Row):
            return NotImplemented
        if set(self._last) != set(other._last):
            return False
        pairs = [(a, b) for a in self._last for b in self._last if a != b and self.before(a, b)]
        return all([other.before(a, b) for a, b in pairs])

    def blocks(self):
        """The blocks in order, as tuples: the files with their first looks, and those with their last looks."""
        found = []
        lasting = True
        for place, file in enumerate(self._looks):
            if place == self._first[file]:
                # A first look behind a last look begins the next block.
                if lasting:
                    found.append(([], []))
                lasting = False
                found[-1][0].append(file)
            if place == self._last[file]:
                lasting = True
                found[-1][1].append(file)
        return [(ascending(firsts), ascending(lasts)) for firsts, lasts in found]


def shortest(row):
    """A row with the same blocks and as few looks as possible."""
    looks = []
    for firsts, lasts in row.blocks():
        # Between the first and the last looks of a block one look can be both, if some file has both here.
        shared = [file for file in firsts if file in lasts][:1]
        looks.extend([file for file in firsts if file not in shared])
        looks.extend(shared)
        looks.extend([file for file in lasts if file not in shared])
    return Row(looks)


def ascending(files):
    """A tuple of these files in ascending order."""
    return tuple(sorted(files, key=str))
