"""What the tests of times share: drawn plans with times, and slow but plain definitions."""

from functools import lru_cache

from lookrows.times import Timed
from tests.readers import drawn_plan

GREAT = 10 ** 9
MANY = 10 ** 5


def timed_of(plan, *ticks):
    """A timed plan with waits and rests (p, q, ticks)."""
    timed = Timed(plan)
    for p, q, count in ticks:
        timed[p, q] = count
    return timed


def drawn_timed(random, steps, files, shift, wait, rest):
    """A drawn plan with waits up to wait and rests up to rest."""
    timed = Timed(drawn_plan(random, steps, files, shift))
    for p, q, _ in timed.plan.rules():
        timed[p, q] = random.randint(0, wait)
    for step in timed.plan.steps:
        timed[step, step] = random.randint(1, rest)
    return timed


def timed_state(timed):
    """All that a timed plan tells about itself."""
    plan = timed.plan
    rules = plan.rules()
    waits = [timed[p, q] for p, q, _ in rules]
    return plan.steps, plan.files, [plan.step_of(file) for file in plan.files], rules, waits, [
        timed[step, step] for step in plan.steps
    ]


def slow_least_time(timed, p, q, shift):
    """The greatest time of a timed way with at most this shift, from all timed ways."""
    rules = timed.plan.rules()
    best = None
    stack = [(p, 0, 0)]
    while stack:
        step, used, time = stack.pop()
        if step == q and (best is None or time > best):
            best = time
        if used < shift:
            stack.append((step, used + 1, time + timed[step, step]))
        for one, two, more in rules:
            if one == step and used + more <= shift:
                stack.append((two, used + more, time + timed[one, two]))
    return best


def least_times_to(timed, q):
    """A function of p and a shift that gives the same, by what is left behind the first move of a way."""
    rules = [(p, r, shift, timed[p, r]) for p, r, shift in timed.plan.rules()]
    rests = {step: timed[step, step] for step in timed.plan.steps}

    @lru_cache(maxsize=None)
    def told(p, shift):
        found = [0] if p == q else []
        moves = [(r, more, wait) for one, r, more, wait in rules if one == p] + [(p, 1, rests[p])]
        for r, more, wait in moves:
            if more <= shift and told(r, shift - more) is not None:
                found.append(wait + told(r, shift - more))
        return max(found, default=None)

    return told


def slow_within(timed, p, q, ticks):
    """The greatest shift up to which no timed way takes more than the ticks, by going through all shifts."""
    if timed.plan[p, q] is None:
        return None
    told = least_times_to(timed, q)
    shift = 0
    while told(p, shift) is None or told(p, shift) <= ticks:
        shift += 1
    return shift - 1


def is_possible(timed, looks, gaps, editions):
    """Whether some timed run shows these editions with these gaps, by all that has to precede something else."""
    plan = timed.plan
    needed = {step: 0 for step in plan.steps}
    for file in looks:
        for step in plan.steps:
            shift = plan[step, plan.step_of(file)]
            if shift is not None:
                needed[step] = max(needed[step], editions[file] - shift)
    # An arrow (x, y, weight) says that y comes behind x; a look that may not come later says the opposite. The small
    # part of a weight counts the arrows, so that a ring of arrows alone is seen even if it takes no time.
    arrows = []
    for step in plan.steps:
        for k in range(1, needed[step]):
            arrows.append(((step, k), (step, k + 1), timed[step, step] * GREAT + 1))
    for p, q, shift in plan.rules():
        for k in range(1, needed[q] - shift + 1):
            arrows.append(((p, k), (q, k + shift), timed[p, q] * GREAT + 1))
    for place, file in enumerate(looks):
        step, edition = plan.step_of(file), editions[file]
        if edition:
            arrows.append(((step, edition), place, 1))
        if edition < needed[step]:
            arrows.append((place, (step, edition + 1), 1))
        if place:
            arrows.append((place - 1, place, 1))
            arrows.append((place, place - 1, -gaps[place - 1] * GREAT - MANY))
    points = {point for one, two, _ in arrows for point in (one, two)}
    times = {point: 0 for point in points}
    for _ in range(len(points) + 1):
        raised = False
        for one, two, weight in arrows:
            if times[one] + weight > times[two]:
                times[two] = times[one] + weight
                raised = True
        if not raised:
            return True
    return False


def slow_timed_taken(timed, looks, gaps, most, last):
    """The sets with editions up to most that are taken in some timed run which ends at tick last, from all of them."""
    plan = timed.plan
    steps, rules = plan.steps, plan.rules()
    first = (tuple(() for _ in steps), 0, 0, 0, ())
    found, stack = {first}, [first]
    while stack:
        times, now, place, looked, seen = stack.pop()
        at = dict(zip(steps, times))
        further = [(times, now + 1, place, looked, seen)] if now < last else []
        for k, step in enumerate(steps):
            number = len(times[k]) + 1
            if number > most or number > 1 and now < times[k][-1] + timed[step, step]:
                continue
            before = [(at[p], number - shift, timed[p, q]) for p, q, shift in rules if q == step and number > shift]
            if all(len(made) >= count and now >= made[count - 1] + wait for made, count, wait in before):
                further.append((times[:k] + ((*times[k], now),) + times[k + 1:], now, place, looked, seen))
        if place < len(looks) and (place == 0 or now <= looked + gaps[place - 1]):
            file = looks[place]
            edition = len(at[plan.step_of(file)])
            if dict(seen).get(file, edition) == edition:
                more = seen if file in dict(seen) else (*seen, (file, edition))
                further.append((times, now, place + 1, now, more))
        for state in further:
            if state not in found:
                found.add(state)
                stack.append(state)
    return {state[4] for state in found if state[2] == len(looks)}
