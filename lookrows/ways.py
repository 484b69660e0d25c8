"""Ways: what follows from the rules of a plan, step by step."""

from lookrows.basics import is_count
from lookrows.errors import BadNumber, NoStep
from lookrows.plans import Plan


def way(plan, p, q):
    """A way from p to q with the least shift, as a list of steps, or None if there is no way."""
    if plan[p, q] is None:
        return None
    # No plan has a ring of shift 0, so following these rules never comes back to a step.
    onward = {rule[0]: rule[1] for rule in plan.rules() if leads_on(plan, rule, q)}
    found = [p]
    while found[-1] != q:
        found.append(onward[found[-1]])
    return found


def leads_on(plan, rule, end):
    """Whether a way with the least shift from the first step of the rule to end begins with the rule."""
    p, q, shift = rule
    rest = plan[q, end]
    return rest is not None and shift + rest == plan[p, end]


def lean(plan):
    """A plan with the same steps, files and least shifts, and with as few rules as possible."""
    made = Plan()
    for step in plan.steps:
        files = plan.files_of(step)
        made.define(step, *files)
    # A rule above the least shift has a detour, and so has a least shift without a rule of its own.
    for p, q, shift in plan.rules():
        if not has_detour(plan, p, q):
            made[p, q] = shift
    return made


def has_detour(plan, p, q):
    """Whether a way through a third step is no longer than the least shift from p to q."""
    for r in plan.steps:
        if r not in (p, q) and plan[p, r] is not None and plan[r, q] is not None:
            if plan[p, r] + plan[r, q] <= plan[p, q]:
                return True
    return False


def needed(plan, step, number):
    """How often each step has occurred at least as soon as step has occurred number times."""
    if step not in plan:
        raise NoStep(step)
    if not is_count(number):
        raise BadNumber(number)
    return {r: needed_of(plan[r, step], number) for r in plan.steps}


def needed_of(shift, number):
    """How often a step has occurred that precedes number occurrences with this least shift, or with None."""
    if shift is None:
        return 0
    return max(0, number - shift)
