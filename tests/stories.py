"""What the tests of desks share: all that a desk tells, and a slow desk that goes through its items again each time."""

from tests.samples import entries, slow_least


def told_by(desk, plan):
    """All that a desk over a plan tells, and where its readers stand."""
    return (
        desk.readers, desk.told(), desk.passes(), desk.possible(), len(desk), {file: desk[file] for file in plan.files},
        {reader: desk.known(reader) for reader in desk.readers}, wanted_entries(desk), desk.broken(), stands(desk),
    )


def wanted_entries(desk):
    """The wanted bounds as names and entries, or None."""
    return None if desk.wanted is None else entries(desk.wanted)


def stands(desk):
    """What each reader would look at next, and when its pass would end if no step occurred."""
    found = {}
    for reader in desk.readers:
        with desk.trial():
            before = len(desk), len(desk.passes())
            while len(desk.passes()) == before[1]:
                desk.look(reader)
            found[reader] = desk.told()[before[0]:], desk.passes()[-1]
    return found


class SlowDesk:
    """A desk by the words of the document, without any errors."""

    def __init__(self, plan):
        self.plan = plan
        self.rows = {}
        self.events = []
        self.bounds = None

    def done(self, events):
        counts = {step: 0 for step in self.plan.steps}
        for event in events:
            if event[0] == "do":
                counts[event[1]] += 1
        return counts

    def editions(self, events):
        counts = self.done(events)
        return {file: counts[self.plan.step_of(file)] for file in self.plan.files}

    def pass_of(self, reader, events):
        """The looks (file, edition) of the pass that the reader is in, and all passes, as (place of its end, set)."""
        looks, ended = [], []
        for place, event in enumerate(events):
            if event[:2] == ("look", reader):
                file = self.rows[reader][len(looks)]
                edition = self.editions(events[:place])[file]
                looks.append((file, edition))
                if any(other == file and shown != edition for other, shown in looks):
                    ended.append((place, None))
                    looks = []
                elif len(looks) == len(self.rows[reader]):
                    ended.append((place, dict(looks)))
                    looks = []
        return looks, ended

    def told(self):
        found = []
        for place, event in enumerate(self.events):
            if event[0] == "look":
                looks, _ = self.pass_of(event[1], self.events[:place])
                event = ("look", event[1], self.rows[event[1]][len(looks)])
            found.append(event)
        return found

    def passes(self):
        found = []
        for reader in self.rows:
            found += [(place, reader, result) for place, result in self.pass_of(reader, self.events)[1]]
        return [(reader, result) for _, reader, result in sorted(found, key=lambda end: end[0])]

    def possible(self):
        counts = self.done(self.events)
        rules = self.plan.rules()
        return [
            q for q in self.plan.steps
            if all(counts[p] >= counts[q] + 1 - shift for p, other, shift in rules if other == q)
        ]

    def known(self, reader):
        told = self.told()
        least = {file: 0 for file in self.plan.files}
        for place, item in enumerate(told):
            if item[:2] == ("look", reader):
                edition = self.editions(self.events[:place])[item[2]]
                for file in least:
                    shift = slow_least(self.plan, self.plan.step_of(file), self.plan.step_of(item[2]))
                    if shift is not None:
                        least[file] = max(least[file], edition - shift)
        return least

    def broken(self):
        if self.bounds is None:
            return []
        missed = []
        for place, (_, x) in enumerate(self.passes()):
            pairs = entries(self.bounds)[1].items()
            if x is not None and any(a in x and b in x and x[a] > x[b] + n for (a, b), n in pairs):
                missed.append(place)
        return missed

    def stands(self):
        found = {}
        editions = self.editions(self.events)
        for reader, row in self.rows.items():
            looks, items = self.pass_of(reader, self.events)[0], []
            result = dict(looks)
            for file in row[len(looks):]:
                items.append(("look", reader, file))
                if result.setdefault(file, editions[file]) != editions[file]:
                    result = None
                    break
            found[reader] = items, (reader, result)
        return found

    def all_told(self):
        """What told_by gives for a desk."""
        return (
            tuple(self.rows), self.told(), self.passes(), self.possible(), len(self.events),
            self.editions(self.events), {reader: self.known(reader) for reader in self.rows},
            None if self.bounds is None else entries(self.bounds), self.broken(), self.stands(),
        )
