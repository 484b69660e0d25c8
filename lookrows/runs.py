"""Runs: lists of occurrences and looks, one after another."""

from lookrows.basics import is_count
from lookrows.errors import BadItem, NoStep, NotYet


def watched(plan, items):
    """The looks of a run in their order, as tuples (reader, file, edition)."""
    return played(plan, items)[0]


def counted(plan, items):
    """How often each step of the plan occurs in a run."""
    return played(plan, items)[1]


def played(plan, items):
    """What watched and what counted tells about a run."""
    earlier = earlier_steps(plan)
    done = {step: 0 for step in plan.steps}
    shown = []
    for place, item in enumerate(items):
        if is_occurrence(item):
            step = item[1]
            if step not in plan:
                raise NoStep(step)
            lacking = lacking_step(earlier[step], done, done[step] + 1)
            if lacking is not None:
                raise NotYet(place, lacking)
            done[step] = done[step] + 1
        elif is_look(item):
            _, reader, file = item
            shown.append((reader, file, done[plan.step_of(file)]))
        else:
            raise BadItem(place)
    return shown, done


def is_occurrence(item):
    """Whether the item has the form ("do", step)."""
    return begins_with(item, "do") and len(item) == 2 and isinstance(item[1], str)


def is_look(item):
    """Whether the item has the form ("look", reader, file)."""
    return begins_with(item, "look") and len(item) == 3 and is_count(item[1]) and isinstance(item[2], str)


def begins_with(item, word):
    """Whether the item is a tuple with this word in front."""
    return isinstance(item, tuple) and len(item) > 0 and isinstance(item[0], str) and item[0] == word


def earlier_steps(plan):
    """For each step the pairs (p, shift) of the rules from p to it, in the order of the plan."""
    earlier = {step: [] for step in plan.steps}
    for p, q, shift in plan.rules():
        earlier[q].append((p, shift))
    return earlier


def lacking_step(pairs, done, number):
    """The first step of these pairs (p, shift) that must occur before occurrence number is possible, or None."""
    for p, shift in pairs:
        if done[p] < number - shift:
            return p
    return None
