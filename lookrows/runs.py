"""Runs: lists of occurrences and looks, one after another."""

from lookrows.basics import is_count
from lookrows.errors import BadItem, NoStep, NotYet


class Course:
    """How often each step of a plan has occurred so far in a run."""

    def __init__(self, plan):
        self._plan = plan
        self._earlier = earlier_steps(plan)
        self.done = {step: 0 for step in plan.steps}

    def edition(self, file):
        """The edition of the file."""
        return self.done[self._plan.step_of(file)]

    def lacking(self, step):
        """The first step that must occur before the next occurrence of the step is possible, or None."""
        for p, shift in self._earlier[step]:
            if self.done[p] < self.done[step] + 1 - shift:
                return p
        return None

    def occur(self, step, place):
        """Do the next occurrence of the step, which is the item at this place, and return its number."""
        if step not in self._plan:
            raise NoStep(step)
        lacking = self.lacking(step)
        if lacking is not None:
            raise NotYet(place, lacking)
        self.done[step] = self.done[step] + 1
        return self.done[step]


def same_course(course):
    """A course of its own that stands where this one stands."""
    made = Course(course._plan)
    made.done = {step: course.done[step] for step in course.done}
    return made


def watched(plan, items):
    """The looks of a run in their order, as tuples (reader, file, edition)."""
    return played(plan, items)[0]


def counted(plan, items):
    """How often each step of the plan occurs in a run."""
    return played(plan, items)[1]


def played(plan, items):
    """What watched and what counted tells about a run."""
    course = Course(plan)
    shown = []
    for place, item in enumerate(items):
        if is_occurrence(item):
            course.occur(item[1], place)
        elif is_look(item):
            _, reader, file = item
            shown.append((reader, file, course.edition(file)))
        else:
            raise BadItem(place)
    return shown, course.done


def is_occurrence(item):
    """Whether the item has the form ("do", step)."""
    return begins_with(item, "do") and len(item) == 2 and isinstance(item[1], str)


def is_look(item):
    """Whether the item has the form ("look", reader, file)."""
    return begins_with(item, "look") and len(item) == 3 and is_count(item[1]) and isinstance(item[2], str)


def begins_with(item, word):
    """Whether the item is a tuple with this word in front."""
    return isinstance(item, tuple) and len(item) > 0 and isinstance(item[0], str) and item[0] == word


def earlier_steps(plan):
    """For each step the pairs (p, shift) of the rules from p to it, in the order of the plan."""
    earlier = {step: [] for step in plan.steps}
    for p, q, shift in plan.rules():
        earlier[q].append((p, shift))
    return earlier
