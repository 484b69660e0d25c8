"""Times: how long steps wait for each other, and readers that are quick enough."""

from lookrows.basics import is_count, is_integer, refuse_strangers, smaller_entries
from lookrows.bounds import bounds_from
from lookrows.errors import BadGaps, BadItem, BadNumber, NoRule, TooEarly, TooFar
from lookrows.plans import refuse_missing
from lookrows.runs import Course, is_look, is_occurrence
from lookrows.taking import refuse_bad_editions, row_limits, run_for

MOST_TICKS = 60


class Timed:
    """A plan with a wait for each rule and a rest for each step."""

    def __init__(self, plan):
        self._plan = plan.copy()
        # The wait of each rule stands under its pair, the rest of a step under the pair of the step and itself.
        self._ticks = {(p, q): 0 for p, q, _ in plan.rules()}
        for step in plan.steps:
            self._ticks[step, step] = 1

    @property
    def plan(self):
        """A copy of the plan."""
        return self._plan.copy()

    def __iter__(self):
        raise TypeError("a plan with times is not iterated over; the steps of its plan are")

    def __getitem__(self, at):
        """The wait of a rule, or the rest of a step."""
        p, q = at
        refuse_no_rule(self, p, q)
        return self._ticks[p, q]

    def __setitem__(self, at, worth):
        """Set the wait of a rule, or the rest of a step."""
        p, q = at
        refuse_no_rule(self, p, q)
        least = 1 if p == q else 0
        if not is_integer(worth) or not least <= worth <= MOST_TICKS:
            raise BadNumber(worth)
        self._ticks[p, q] = worth

    def least(self, p, q, shift):
        """By how many ticks q(k + shift) surely follows p(k), or None if it does not have to follow."""
        refuse_missing(self._plan, p)
        refuse_missing(self._plan, q)
        if not is_count(shift):
            raise BadNumber(shift)
        arrivals = arrivals_in_order(self)
        levels = []
        while len(levels) <= shift:
            add_level(levels, arrivals, p)
        return levels[-1].get(q)

    def within(self, p, q, ticks):
        """The greatest shift up to which no timed way from p to q takes more than these ticks, or None."""
        refuse_missing(self._plan, p)
        refuse_missing(self._plan, q)
        if not is_count(ticks):
            raise BadNumber(ticks)
        return greatest_shifts(self, p, [(q, ticks)])[q, ticks]


def timed_watched(timed, items):
    """The looks of a timed run in their order, as tuples (reader, file, edition, tick)."""
    course = Course(timed._plan)
    arrivals = arrivals_in_order(timed)
    times = {step: [] for step in arrivals}
    now = 0
    shown = []
    for place, item in enumerate(items):
        untimed = without_tick(item)
        if is_occurrence(untimed):
            _, step, tick = item
            course.occur(step, place)
            if tick < now or tick < soonest(arrivals[step], times, course.done[step]):
                raise TooEarly(place)
            times[step].append(tick)
        elif is_look(untimed):
            _, reader, file, tick = item
            edition = course.edition(file)
            if tick < now:
                raise TooEarly(place)
            shown.append((reader, file, edition, tick))
        else:
            raise BadItem(place)
        now = tick
    return shown


def timed_taken(timed, row, gaps):
    """The closed bounds of the sets that a reader with this row and these gaps can take in the timed runs."""
    refuse_strangers(row.files, timed._plan.files)
    refuse_bad_gaps(row, gaps)
    return bounds_from(row.files, timed_limits(timed, row, gaps)).closed()


def timed_run_for(timed, row, gaps, editions):
    """A timed run in which reader 0 goes through the row with these gaps and takes the set of these editions."""
    refuse_bad_editions(timed._plan, row, editions)
    refuse_bad_gaps(row, gaps)
    table = bounds_from(row.files, timed_limits(timed, row, gaps))
    unmet = table(editions)
    if unmet:
        first, second = unmet[0]
        raise TooFar(first, second)
    items = run_for(timed._plan, row, editions)
    ticks = earliest_ticks(items, delays(timed, items), gaps)
    # Items of one tick keep the order that they have in the run without ticks.
    order = sorted([int(ticks[place] * len(items) + place) for place in range(len(items))])
    places = [number % len(items) for number in order]
    return [(*items[place], ticks[place]) for place in places]


def older(timed, file, ticks):
    """By how many editions the file can at most be newer than what a look showed, so many ticks after this look."""
    step = timed._plan.step_of(file)
    return 1 + timed.within(step, step, ticks)


def refuse_no_rule(timed, p, q):
    """Raise NoStep or NoRule if there is neither a rule from p to q nor are both the same step."""
    refuse_missing(timed._plan, p)
    refuse_missing(timed._plan, q)
    if (p, q) not in timed._ticks:
        raise NoRule(p, q)


def refuse_bad_gaps(row, gaps):
    """Raise BadGaps if gaps does not have one integer of at least 0 for each pair of neighbouring looks."""
    if not isinstance(gaps, (list, tuple)) or len(gaps) != max(0, len(row) - 1):
        raise BadGaps()
    if not all([is_count(gap) for gap in gaps]):
        raise BadGaps()


def arrivals_in_order(timed):
    """For each step the tuples (p, shift, ticks) of the rules from p to it and of its own repetition.

    The steps stand in an order in which each rule with shift 0 leads from an earlier step to a later one.
    """
    plan = timed._plan
    # What leads to a step with shift 0 leads on to all that the step leads to with shift 0, so it has fewer of these.
    before = {q: len([p for p in plan.steps if plan[p, q] == 0]) for q in plan.steps}
    order = [step for count in range(len(plan) + 1) for step in plan.steps if before[step] == count]
    arrivals = {step: [(step, 1, timed._ticks[step, step])] for step in order}
    for p, q, shift in plan.rules():
        arrivals[q].append((p, shift, timed._ticks[p, q]))
    return arrivals


def add_level(levels, arrivals, start):
    """Add the next level: for each step the longest time of a timed way from start with just the shift of the level.

    A step can rest and so use up a shift, so a smaller shift never allows a longer time.
    """
    shift = len(levels)
    level = {} if levels else {start: 0}
    levels.append(level)
    for q in arrivals:
        for p, more, ticks in arrivals[q]:
            if more <= shift and p in levels[shift - more]:
                time = levels[shift - more][p] + ticks
                if q not in level or time > level[q]:
                    level[q] = time


def greatest_shifts(timed, start, goals):
    """For each goal (q, ticks) the number that within tells about start, q and ticks."""
    found = {goal: None for goal in goals}
    left = [(q, ticks) for q, ticks in found if timed._plan[start, q] is not None]
    arrivals = arrivals_in_order(timed)
    levels = []
    while left:
        add_level(levels, arrivals, start)
        for q, ticks in left:
            if levels[-1].get(q, 0) > ticks:
                found[q, ticks] = len(levels) - 2
        left = [goal for goal in left if found[goal] is None]
    return found


def timed_limits(timed, row, gaps):
    """The limits for pairs of files of the row, from the plan and from the gaps."""
    plan = timed._plan
    times = least_times(row, gaps)
    entries = {}
    for start in plan.steps:
        pairs = [(a, b) for a, b in times if plan.step_of(b) == start]
        found = greatest_shifts(timed, start, [(plan.step_of(a), times[a, b]) for a, b in pairs])
        for a, b in pairs:
            most = found[plan.step_of(a), times[a, b]]
            if most is not None:
                entries[a, b] = most + 1
    return smaller_entries(row_limits(plan, row), entries)


def least_times(row, gaps):
    """For each pair (a, b) of different files the least time that surely is enough from a look at b to one at a."""
    moments = [0]
    for gap in gaps:
        moments.append(moments[-1] + gap)
    times = {}
    for last, a in enumerate(row.looks):
        for first, b in enumerate(row.looks[:last]):
            time = moments[last] - moments[first]
            if a != b and ((a, b) not in times or time < times[a, b]):
                times[a, b] = time
    return times


def without_tick(item):
    """The item without its tick, or an empty tuple if it has none."""
    if not isinstance(item, tuple) or len(item) == 0 or not is_count(item[-1]):
        return ()
    return item[:-1]


def soonest(arrivals, times, number):
    """The least tick for occurrence number of a step with these arrivals, by the waits and its rest."""
    least = 0
    for p, shift, ticks in arrivals:
        if number > shift and times[p][number - shift - 1] + ticks > least:
            least = times[p][number - shift - 1] + ticks
    return least


def delays(timed, items):
    """For each item of a run of reader 0 the pairs (place, ticks): so long after that item it comes at least."""
    plan = timed._plan
    arrivals = arrivals_in_order(timed)
    places = {step: [] for step in arrivals}
    looks = []
    found = []
    for place, item in enumerate(items):
        if item[0] == "do":
            step = item[1]
            number = len(places[step]) + 1
            after = [(places[p][number - shift - 1], ticks) for p, shift, ticks in arrivals[step] if number > shift]
            # A look that shows the edition before comes before.
            found.append(after + [(look, 0) for look, shown in looks if shown == (step, number - 1)])
            places[step].append(place)
        else:
            step = plan.step_of(item[2])
            after = [(look, 0) for look, _ in looks[-1:]] + [(before, 0) for before in places[step][-1:]]
            found.append(after)
            looks.append((place, (step, len(places[step]))))
    return found


def earliest_ticks(items, after, gaps):
    """The least ticks of the items with these delays, if neighbouring looks are no further apart than the gaps."""
    looks = [place for place, item in enumerate(items) if item[0] == "look"]
    ticks = [0 for _ in items]
    settled = False
    while not settled:
        for place, earlier in enumerate(after):
            for before, delay in earlier:
                ticks[place] = max(int(ticks[place]), int(ticks[before] + delay))
        settled = True
        # A look that comes late draws the looks before it behind itself, and so what follows them.
        for k in reversed(range(len(gaps))):
            least = ticks[looks[k + 1]] - gaps[k]
            if ticks[looks[k]] < least:
                ticks[looks[k]] = least
                settled = False
    return ticks
