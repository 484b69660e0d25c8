"""Logs: what several readers have seen, look by look, and runs that show just this."""

from lookrows.basics import is_count, refuse_strangers
from lookrows.errors import BadNumber, Barred
from lookrows.runs import Course
from lookrows.ways import needed_of, way


def run_of(plan, logs):
    """A run in which the looks of reader number i are just those of logs[i] and show these editions."""
    refuse_bad_looks(plan, logs)
    # A mark (step, edition) tells that just so many occurrences of the step precede the look.
    marks = [[(plan.step_of(file), edition) for file, edition in log] for log in logs]
    showing = Showing(plan, marks)
    showing.go_on()
    if not showing.is_over():
        raise Barred(tuple(ring_of_pieces(plan, marks)))
    return [
        ("do", what) if reader is None else ("look", reader, logs[reader][what][0]) for reader, what in showing.deeds
    ]


def sure(plan, logs):
    """For each file of the plan the least edition that it can have behind all looks of the logs."""
    run_of(plan, logs)
    return least_editions(plan, [look for log in logs for look in log])


def refuse_bad_looks(plan, logs):
    """Raise NoFile or BadNumber for the first look with a strange file, or else for the first wrong edition."""
    looks = [look for log in logs for look in log]
    refuse_strangers([file for file, _ in looks], plan.files)
    for _, edition in looks:
        if not is_count(edition):
            raise BadNumber(edition)


def least_editions(plan, looks):
    """For each file of the plan the least edition that it can have behind looks (file, edition)."""
    counts = least_counts(plan, [(plan.step_of(file), edition) for file, edition in looks])
    return {file: counts[plan.step_of(file)] for file in plan.files}


def least_counts(plan, marks):
    """How often each step must have occurred so that each step of the marks has occurred so many times."""
    counts = {step: 0 for step in plan.steps}
    for step, number in marks:
        for earlier in plan.steps:
            counts[earlier] = max(counts[earlier], int(needed_of(plan[earlier, step], number)))
    return counts


class Showing:
    """A run in the making, whose looks show the editions of the marks."""

    def __init__(self, plan, marks):
        self._marks = marks
        self._course = Course(plan)
        self._counts = least_counts(plan, [mark for log in marks for mark in log])
        self._next = [0 for _ in marks]
        # How many looks to come show this edition; the next occurrence has to wait for them.
        self._waiting = {}
        for log in marks:
            for mark in log:
                self._waiting[mark] = self._waiting.get(mark, 0) + 1
        # Tuples (None, step) and (reader, place of the look in the log).
        self.deeds = []

    def go_on(self):
        """Do all occurrences that are needed and make all looks, until nothing more is possible."""
        before = -1
        while before < len(self.deeds):
            before = len(self.deeds)
            for reader in range(len(self._marks)):
                while self.can_look(reader):
                    self.look_once(reader)
            for step in self._counts:
                while self.can_occur(step):
                    self._course.occur(step, len(self.deeds))
                    self.deeds.append((None, step))

    def is_over(self):
        """Whether nothing is left to do."""
        looks = sum([len(log) for log in self._marks])
        return len(self.deeds) == looks + sum([self._counts[step] for step in self._counts])

    def can_look(self, reader):
        """Whether the next look of the reader would show what it has to show."""
        log = self._marks[reader]
        place = self._next[reader]
        if place == len(log):
            return False
        step, edition = log[place]
        return self._course.done[step] == edition

    def look_once(self, reader):
        """Make the next look of the reader."""
        place = self._next[reader]
        mark = self._marks[reader][place]
        self._waiting[mark] = self._waiting[mark] - 1
        self._next[reader] = place + 1
        self.deeds.append((reader, place))

    def can_occur(self, step):
        """Whether the next occurrence of the step is needed, and nothing has to precede it."""
        done = self._course.done[step]
        if done == self._counts[step] or self._waiting.get((step, done), 0) > 0:
            return False
        return self._course.lacking(step) is None


def ring_of_pieces(plan, marks):
    """As few pieces (reader, first, second, way) as possible that form a ring, for marks that no run shows."""
    onward = onward_looks(plan, marks)
    best = None
    most = len(marks)
    for reader, log in enumerate(marks):
        for place in range(len(log)):
            ring = ring_through(onward, reader, place, most)
            if ring is not None:
                best = ring
                most = len(ring) - 1
    pieces = []
    for at, (reader, first, second) in enumerate(best):
        follower, goal, _ = best[(at + 1) % len(best)]
        found = way(plan, marks[reader][second][0], marks[follower][goal][0])
        pieces.append((reader, first, second, tuple(found)))
    return pieces


def ring_through(onward, reader, place, most):
    """The fewest pieces (reader, first, second) of a ring through this look, or None if there are more than most."""
    reached = {reader: (place, ())}
    for _ in range(most):
        further = {}
        for one in reached:
            first, pieces = reached[one]
            for other in onward[one, first]:
                goal, second = onward[one, first][other]
                # Of the looks of one reader the earliest one leads on at least as far as the others.
                if other not in further or goal < further[other][0]:
                    further[other] = (goal, (*pieces, (one, first, second)))
        if reader in further and further[reader][0] <= place:
            goal, pieces = further[reader]
            return [(reader, goal, pieces[0][2]), *pieces[1:]]
        reached = further
    return None


def onward_looks(plan, marks):
    """Where a piece can lead that begins with a look: for each look a dict from readers to pairs (goal, second).

    goal is the earliest look of that reader which look second, or one at least as early, surely precedes, because it
    shows more than can have occurred before; second is the look itself or a later one of the same reader.
    """
    onward = {}
    for reader, log in enumerate(marks):
        further = {}
        for place in reversed(range(len(log))):
            further = {other: further[other] for other in further}
            for other, theirs in enumerate(marks):
                goal = first_behind(plan, log[place], theirs)
                if goal is not None and (other not in further or goal < further[other][0]):
                    further[other] = (goal, place)
            onward[reader, place] = further
    return onward


def first_behind(plan, mark, log):
    """The place of the first look of a log that shows what follows the look with this mark, or None."""
    step, edition = mark
    for place, (goal, shown) in enumerate(log):
        shift = plan[step, goal]
        if shift is not None and shown >= edition + 1 + shift:
            return place
    return None
