"""Bounds: tables that say how far the edition of one file may be ahead of that of another one."""

from lookrows.basics import is_count, is_integer, is_name, least_sums, refuse_strangers, smaller_entries
from lookrows.errors import BadName, BadNumber, NameTaken, NoSet, SameFile


class Bounds:
    """A table over some files, with an integer or None for each pair of different files."""

    def __init__(self, names):
        for name in names:
            if not is_name(name):
                raise BadName(name)
        for place, name in enumerate(names):
            if name in names[:place]:
                raise NameTaken(name)
        self._names = tuple(names)
        # Only the integer entries are kept, by pairs; all others are None.
        self._entries = {}

    @property
    def names(self):
        """The names in order."""
        return self._names

    def __len__(self):
        return len(self._names)

    def __iter__(self):
        raise TypeError("a table is not iterated over; its names are")

    def __getitem__(self, at):
        """The entry for a pair of files."""
        a, b = at
        refuse_strangers((a, b), self._names)
        if a == b:
            return 0
        return self._entries.get((a, b))

    def __setitem__(self, at, worth):
        """Set the entry for a pair of different files."""
        a, b = at
        refuse_strangers((a, b), self._names)
        if a == b:
            raise SameFile(a)
        if worth is not None and not is_integer(worth):
            raise BadNumber(worth)
        if worth is None:
            self._entries.pop((a, b), None)
        else:
            self._entries[a, b] = worth

    def ring(self):
        """The files of a ring with a sum below 0, in its order, or None if there is none."""
        return ring_below_zero(self._names, self._entries)

    def __bool__(self):
        """Whether some set is in the table."""
        return self.ring() is None

    def closed(self):
        """The table with the same sets in which each entry is as small as possible."""
        return bounds_from(self._names, closed_entries(self))

    def spread(self):
        """The greatest entry of the closed table, or None if one of its entries is None."""
        entries = closed_entries(self)
        if len(entries) < len(self._names) * (len(self._names) - 1):
            return None
        return max([int(entries[pair]) for pair in entries], default=0)

    def __contains__(self, x):
        """Whether x is a set that is in the table."""
        if not isinstance(x, dict) or len(x) != len(self._names):
            return False
        if not all([name in x and is_integer(x[name]) for name in self._names]):
            return False
        return not unmet(self, x)

    def __call__(self, x):
        """The pairs of files whose entry is not met by the editions in x."""
        refuse_strangers(self._names, x)
        for name in self._names:
            if not is_integer(x[name]):
                raise BadNumber(x[name])
        return unmet(self, x)

    def sets(self, most):
        """The sets in the table with editions from 0 to most, as tuples in ascending order."""
        if not is_count(most):
            raise BadNumber(most)
        # The entries of this moment, because a caller may change the table before it takes the next set.
        entries = {pair: self._entries[pair] for pair in self._entries}
        names = self._names
        begun = [()]
        while begun:
            editions = begun.pop()
            if len(editions) == len(names):
                yield editions
            else:
                low, high = next_limits(names, entries, editions, most)
                # The least edition goes on top, because it must be finished first.
                for edition in reversed(range(low, high + 1)):
                    begun.append((*editions, edition))

    def __and__(self, other):
        """The table over the names of both that has the sets whose parts are in both."""
        if not isinstance(other, Bounds):
            return NotImplemented
        more = [name for name in other._names if name not in self._names]
        return bounds_from((*self._names, *more), smaller_entries(self._entries, other._entries))

    def __iand__(self, other):
        """Take over the names and entries of other."""
        both = self & other
        self._names = both._names
        self._entries = both._entries
        return self

    def __or__(self, other):
        """The least closed table that has all sets of both."""
        if not isinstance(other, Bounds):
            return NotImplemented
        refuse_strangers(self._names, other._names)
        refuse_strangers(other._names, self._names)
        if other.ring() is not None:
            return self.closed()
        if self.ring() is not None:
            return bounds_from(self._names, closed_entries(other))
        return bounds_from(self._names, greater_entries(closed_entries(self), closed_entries(other)))

    def __ior__(self, other):
        """Become the least closed table that has all sets of both."""
        both = self | other
        self._entries = both._entries
        return self

    def __le__(self, other):
        """Whether both have the same names and every set in self is in other."""
        if not isinstance(other, Bounds):
            return NotImplemented
        if set(self._names) != set(other._names):
            return False
        if self.ring() is not None:
            return True
        least = closed_entries(self)
        return all([pair in least and least[pair] <= other._entries[pair] for pair in other._entries])

    def __neg__(self):
        """The table with the two files of each entry exchanged."""
        return bounds_from(self._names, {(b, a): self._entries[a, b] for a, b in self._entries})

    def __lshift__(self, other):
        """The table with each integer entry greater by a number."""
        if not is_count(other):
            raise BadNumber(other)
        return bounds_from(self._names, {pair: self._entries[pair] + other for pair in self._entries})

    def __rshift__(self, other):
        """The table with each integer entry less by a number."""
        if not is_count(other):
            raise BadNumber(other)
        return bounds_from(self._names, {pair: self._entries[pair] - other for pair in self._entries})


def bounds_from(names, entries):
    """A table over these names with a copy of these integer entries."""
    made = Bounds(names)
    made._entries = {pair: entries[pair] for pair in entries}
    return made


def part_of(bounds, names):
    """The table over those of its names that are among these names, with their entries; with all of them a copy."""
    kept = [name for name in bounds._names if name in names]
    entries = bounds._entries
    return bounds_from(kept, {(a, b): entries[a, b] for a, b in entries if a in kept and b in kept})


def ring_below_zero(names, entries):
    """The names of a ring whose entries have a sum below 0, in its order, or None if there is none."""
    least = {name: 0 for name in names}
    previous = {}
    lowered = None
    for _ in names:
        lowered = None
        for a, b in entries:
            if least[a] + entries[a, b] < least[b]:
                least[b] = least[a] + entries[a, b]
                previous[b] = a
                lowered = b
    # Without such a ring the last round lowers nothing, because a path has fewer entries than there are names.
    if lowered is None:
        return None
    # From what the last round lowered, going back never comes to an end, so it comes into a ring.
    for _ in names:
        lowered = previous[lowered]
    ring = [lowered]
    while previous[ring[-1]] != lowered:
        ring.append(previous[ring[-1]])
    return tuple(ring[::-1])


def closed_entries(bounds):
    """The integer entries of the closed table."""
    ring = bounds.ring()
    if ring is not None:
        raise NoSet(ring)
    least = least_sums(bounds._names, bounds._entries)
    return {(a, b): least[a, b] for a, b in least if a != b}


def greater_entries(one, two):
    """The greater entry for each pair that both tables have."""
    return {pair: one[pair] if one[pair] > two[pair] else two[pair] for pair in one if pair in two}


def unmet(bounds, editions):
    """The pairs whose entry is not met, by the places of both files among the names."""
    names = bounds._names
    entries = bounds._entries
    return [
        (a, b) for a in names for b in names if (a, b) in entries and editions[a] > editions[b] + entries[a, b]
    ]


def next_limits(names, entries, editions, most):
    """The least and the greatest edition that the first name without one may have beside these editions."""
    name = names[len(editions)]
    low = 0
    high = most
    for other, edition in zip(names, editions):
        if (other, name) in entries and edition - entries[other, name] > low:
            low = edition - entries[other, name]
        if (name, other) in entries and edition + entries[name, other] < high:
            high = edition + entries[name, other]
    return low, high
