"""What the tests of readers share: rows and logs, drawn runs, and all runs gone through."""

from itertools import permutations, product
from random import Random

from lookrows.plans import Plan
from lookrows.rows import Row


def row_of(looks):
    """A row of looks at files with names of one character, or with names in a list."""
    return Row(list(looks))


def random_rows(many, files, most, seed):
    """Tuples of up to so many looks at some of the files, the same ones in each run of the tests."""
    random = Random(seed)
    for _ in range(many):
        yield tuple(random.choice(files) for _ in range(random.randint(0, most)))


def drawn_plan(random, steps, files, most):
    """A plan with these many steps and files and with drawn rules; shift 0 only to later steps."""
    plan = Plan()
    writers = [random.randrange(steps) for _ in range(files)]
    names = [f"s{k}" for k in range(steps)]
    for k in random.sample(range(steps), steps):
        own = [f"f{i}" for i in range(files) if writers[i] == k]
        plan.define(names[k], *own)
    for i, p in enumerate(names):
        for j, q in enumerate(names):
            if i != j and random.random() < 0.5:
                plan[p, q] = random.randint(0 if i < j else 1, most)
    return plan


def possible(plan, done, step):
    """Whether the next occurrence of the step is possible, by the words of the document."""
    return all(done[p] >= done[step] + 1 - shift for p, q, shift in plan.rules() if q == step)


def drawn_run(random, plan, rows, many):
    """A drawn run of so many items, in which reader i goes round and round through rows[i]."""
    done = {step: 0 for step in plan.steps}
    places = [0 for _ in rows]
    items = []
    while len(items) < many and (plan.steps or any(rows)):
        reader = random.randrange(len(rows)) if rows else 0
        if rows and rows[reader] and random.random() < 0.5:
            items.append(("look", reader, rows[reader][places[reader] % len(rows[reader])]))
            places[reader] += 1
        elif plan.steps:
            step = random.choice(plan.steps)
            if possible(plan, done, step):
                done[step] += 1
                items.append(("do", step))
        elif not any(rows):
            break
    return items


def going(plan, start, most, follow):
    """All states that some run reaches; a state is a tuple whose first part is how often the steps have occurred.

    follow(done, state) gives the states that a look leads to.
    """
    steps = plan.steps
    rules = plan.rules()
    first = ((0,) * len(steps), *start)
    found, stack = {first}, [first]
    while stack:
        state = stack.pop()
        done = dict(zip(steps, state[0]))
        further = list(follow(done, state))
        for step in steps:
            if done[step] < most and all(done[p] >= done[step] + 1 - s for p, q, s in rules if q == step):
                counts = tuple(done[other] + (other == step) for other in steps)
                further.append((counts, *state[1:]))
        for other in further:
            if other not in found:
                found.add(other)
                stack.append(other)
    return found


def slow_taken(plan, looks, most):
    """The sets with editions up to most that a row can take, as tuples of pairs, from all runs."""
    def follow(done, state):
        _, place, seen = state
        if place < len(looks):
            file = looks[place]
            edition = done[plan.step_of(file)]
            if dict(seen).get(file, edition) == edition:
                more = seen if file in dict(seen) else (*seen, (file, edition))
                yield state[0], place + 1, more

    return {state[2] for state in going(plan, (0, ()), most, follow) if state[1] == len(looks)}


def slow_ends(plan, logs):
    """The counts behind all looks of the logs that some run can have, as tuples, from all runs."""
    most = max([edition for log in logs for _, edition in log], default=0)

    def follow(done, state):
        for reader, log in enumerate(logs):
            place = state[1][reader]
            if place < len(log) and done[plan.step_of(log[place][0])] == log[place][1]:
                yield state[0], (*state[1][:reader], place + 1, *state[1][reader + 1:])

    whole = tuple(len(log) for log in logs)
    return {state[0] for state in going(plan, ((0,) * len(logs),), most, follow) if state[1] == whole}


def leads(plan, logs, look, goal):
    """Whether goal, a pair (reader, place), shows what surely occurs behind look."""
    file, edition = logs[look[0]][look[1]]
    other, shown = logs[goal[0]][goal[1]]
    shift = plan[plan.step_of(file), plan.step_of(other)]
    return shift is not None and shown >= edition + 1 + shift


def is_ring(plan, logs, pieces):
    """Whether tuples (reader, first, second) form a ring as the document says."""
    for at, (reader, first, second) in enumerate(pieces):
        follower, goal, _ = pieces[(at + 1) % len(pieces)]
        if not 0 <= first <= second < len(logs[reader]) or not leads(plan, logs, (reader, second), (follower, goal)):
            return False
    return True


def slow_number(plan, logs):
    """The least number of pieces of a ring, or None if there is none, from all choices of different readers."""
    spans = [[(i, j) for j in range(len(log)) for i in range(j + 1)] for log in logs]
    for many in range(1, len(logs) + 1):
        for readers in permutations(range(len(logs)), many):
            for chosen in product(*[spans[reader] for reader in readers]):
                if is_ring(plan, logs, [(reader, *span) for reader, span in zip(readers, chosen)]):
                    return many
    return None


def number_by_looks(plan, logs):
    """The same number, for more and longer logs: from all sequences of looks that lead to each other."""
    looks = [(reader, place) for reader, log in enumerate(logs) for place in range(len(log))]
    goals = {look: [goal for goal in looks if leads(plan, logs, look, goal)] for look in looks}
    numbers = []
    for start in looks:
        level, reached, number = {start}, set(), 0
        while level and start not in reached:
            number += 1
            seconds = {(reader, k) for reader, place in level for k in range(place, len(logs[reader]))}
            level = {goal for second in seconds for goal in goals[second]} - reached
            reached |= level
        if start in reached:
            numbers.append(number)
    return min(numbers, default=None)


def check_pieces(test, plan, logs, pieces):
    """The pieces of Barred are what the document says, for looks of the logs."""
    test.assertIsInstance(pieces, tuple)
    test.assertGreaterEqual(len(pieces), 1)
    for at, piece in enumerate(pieces):
        test.assertIsInstance(piece, tuple)
        reader, first, second, way = piece
        follower, goal = pieces[(at + 1) % len(pieces)][:2]
        test.assertTrue(0 <= first <= second < len(logs[reader]))
        test.assertIsInstance(way, tuple)
        file, edition = logs[reader][second]
        other, shown = logs[follower][goal]
        test.assertEqual((way[0], way[-1]), (plan.step_of(file), plan.step_of(other)))
        shifts = {(p, q): shift for p, q, shift in plan.rules()}
        shift = sum(shifts[pair] for pair in zip(way, way[1:]))
        test.assertGreaterEqual(shown, edition + 1 + shift)


def looks_of(logs):
    """The looks of all logs as tuples (reader, file, edition), reader by reader."""
    return [(reader, *look) for reader, log in enumerate(logs) for look in log]
