"""Plans: steps that write files, and rules about the order in which the steps occur."""

from lookrows.basics import is_integer, is_name, least_sums, smaller_entries
from lookrows.errors import BadName, BadNumber, Clash, NameTaken, NoFile, NoStep, SameStep, ZeroRing

GREATEST_SHIFT = 99


class Plan:
    """Steps with their files, and rules with shifts for ordered pairs of steps."""

    def __init__(self):
        self._writes = {}
        self._writer = {}
        self._rules = {}
        # The least shifts are kept beside the rules, because they are asked for far more often than rules change.
        self._least = {}

    def define(self, step, *files):
        """Add a step that writes these files."""
        for name in (step, *files):
            if not is_name(name):
                raise BadName(name)
        if step in self._writes:
            raise NameTaken(step)
        for place, file in enumerate(files):
            if file in self._writer or file in files[:place]:
                raise NameTaken(file)
        self._writes[step] = files
        for file in files:
            self._writer[file] = step
        self._least[step, step] = 0

    @property
    def steps(self):
        """The steps in the order in which they were defined."""
        return tuple(self._writes)

    @property
    def files(self):
        """The files in the order in which they were defined."""
        return tuple(self._writer)

    def step_of(self, file):
        """The step that writes the file."""
        if not isinstance(file, str) or file not in self._writer:
            raise NoFile(file)
        return self._writer[file]

    def files_of(self, step):
        """The files that the step writes, in the order in which they were passed."""
        refuse_missing(self, step)
        return self._writes[step]

    def rules(self):
        """The rules (p, q, shift), by the places of p and q among the steps."""
        return [(p, q, self._rules[p, q]) for p in self._writes for q in self._writes if (p, q) in self._rules]

    def copy(self):
        """A plan of its own with the same steps, files and rules."""
        return plan_from(self._writes, self._rules)

    def __len__(self):
        return len(self._writes)

    def __contains__(self, x):
        return isinstance(x, str) and x in self._writes

    def __iter__(self):
        raise TypeError("a plan is not iterated over; its steps are")

    def __getitem__(self, at):
        """The least shift of a way, or None if there is no way."""
        p, q = at
        refuse_missing(self, p)
        refuse_missing(self, q)
        return self._least.get((p, q))

    def __setitem__(self, at, worth):
        """Set the rule for a pair of steps, or remove it with None."""
        p, q = at
        refuse_missing(self, p)
        refuse_missing(self, q)
        if p == q:
            raise SameStep(p)
        if worth is not None and not is_shift(worth):
            raise BadNumber(worth)
        rules = {pair: self._rules[pair] for pair in self._rules if pair != (p, q)}
        if worth is not None:
            rules[p, q] = worth
        least = least_sums(self._writes, rules)
        refuse_zero_ring(rules, least)
        self._rules = rules
        self._least = least

    def __le__(self, other):
        """Whether both have the same steps and files and every run of self is a run of other."""
        if not isinstance(other, Plan):
            return NotImplemented
        if set(self._writes) != set(other._writes):
            return False
        if not all([set(self._writes[step]) == set(other._writes[step]) for step in self._writes]):
            return False
        return all([pair in self._least and self._least[pair] <= other._least[pair] for pair in other._least])

    def __or__(self, other):
        """A plan with the steps, files and rules of both."""
        if not isinstance(other, Plan):
            return NotImplemented
        refuse_clash(self, other)
        writes = {step: self._writes[step] for step in self._writes}
        for step in other._writes:
            if step not in writes:
                writes[step] = other._writes[step]
        return plan_from(writes, smaller_entries(self._rules, other._rules))

    def __ior__(self, other):
        """Take over the steps, files and rules of other."""
        both = self | other
        self._writes = both._writes
        self._writer = both._writer
        self._rules = both._rules
        self._least = both._least
        return self


def joined(*plans):
    """A plan with the steps, files and rules of all these plans."""
    whole = Plan()
    for plan in plans:
        whole = whole | plan
    return whole


def plan_from(writes, rules):
    """A plan with copies of these tables: the files of each step, and the shift of each rule."""
    least = least_sums(writes, rules)
    refuse_zero_ring(rules, least)
    plan = Plan()
    plan._writes = {step: writes[step] for step in writes}
    plan._writer = {file: step for step in writes for file in writes[step]}
    plan._rules = {pair: rules[pair] for pair in rules}
    plan._least = least
    return plan


def is_shift(x):
    """Whether x may be the shift of a rule."""
    return is_integer(x) and 0 <= x <= GREATEST_SHIFT


def refuse_missing(plan, step):
    """Raise NoStep if the plan has no such step."""
    if step not in plan:
        raise NoStep(step)


def refuse_clash(one, two):
    """Raise Clash if the plans do not agree on a step or a file that both have."""
    for step in one._writes:
        if step in two._writes and set(one._writes[step]) != set(two._writes[step]):
            raise Clash(step)
    for file in one._writer:
        if file in two._writer and one._writer[file] != two._writer[file]:
            raise Clash(file)


def refuse_zero_ring(rules, least):
    """Raise ZeroRing if there is a ring of rules with shift 0."""
    for p, q in rules:
        # Shifts are never below 0, so a rule with shift 0 lies in such a ring exactly if the way back costs nothing.
        if rules[p, q] == 0 and least.get((q, p)) == 0:
            raise ZeroRing(zero_path(rules, q, p))


def zero_path(rules, start, end):
    """The different steps along rules with shift 0 from start to end, for steps that are so connected."""
    paths = {start: (start,)}
    while end not in paths:
        for p, q in rules:
            if rules[p, q] == 0 and p in paths and q not in paths:
                paths[q] = (*paths[p], q)
    return paths[end]
