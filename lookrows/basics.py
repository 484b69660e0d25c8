"""What several modules need: what a name and an integer is, strange files, and tables of sums along paths."""

from lookrows.errors import NoFile

LETTERS = "abcdefghijklmnopqrstuvwxyz"
NAME_CHARACTERS = "abcdefghijklmnopqrstuvwxyz0123456789"
LONGEST_NAME = 8


def is_name(x):
    """Whether x may be the name of a step, a file or a reader."""
    if not isinstance(x, str) or not 1 <= len(x) <= LONGEST_NAME:
        return False
    return x[0] in LETTERS and all([character in NAME_CHARACTERS for character in x])


def is_integer(x):
    """Whether x is an integer; True and False are not."""
    return isinstance(x, int) and not isinstance(x, bool)


def is_count(x):
    """Whether x is an integer of at least 0."""
    return is_integer(x) and x >= 0


def refuse_strangers(names, known):
    """Raise NoFile for the first of these names that is not among the known ones."""
    for name in names:
        if not isinstance(name, str) or name not in known:
            raise NoFile(name)


def smaller_entries(one, two):
    """The entries of both tables; the smaller one where both tables have one."""
    both = {pair: one[pair] for pair in one}
    for pair in two:
        if pair not in both or two[pair] < both[pair]:
            both[pair] = two[pair]
    return both


def least_sums(names, entries):
    """For each pair (a, b) of names with a path from a to b, the least sum of entries along one.

    entries is a dict from pairs of different names to integers. The path of a name alone has the sum 0.
    """
    least = {pair: entries[pair] for pair in entries}
    for name in names:
        least[name, name] = 0
    for middle in names:
        onward = [(b, least[middle, b]) for b in names if (middle, b) in least]
        for a in names:
            if (a, middle) in least:
                first = least[a, middle]
                for b, rest in onward:
                    if (a, b) not in least or first + rest < least[a, b]:
                        least[a, b] = first + rest
    return least
