"""Desks: readers who go through their rows again and again while the steps of a plan occur."""

from lookrows.basics import is_count, is_name, refuse_strangers
from lookrows.bounds import part_of
from lookrows.errors import BadItem, BadName, BadNumber, EmptyRow, NameTaken, NoReader, NothingBack
from lookrows.logs import least_editions
from lookrows.runs import Course, begins_with, is_occurrence, same_course


class Desk:
    """A plan whose steps occur, readers with rows, and what has happened so far."""

    def __init__(self, plan):
        self._plan = plan.copy()
        self._story = Story(self._plan)
        self._wanted = None

    def enter(self, reader, row):
        """Add a reader with a row."""
        if not is_name(reader):
            raise BadName(reader)
        if reader in self._story.rows:
            raise NameTaken(reader)
        if len(row) == 0:
            raise EmptyRow()
        refuse_strangers(row.files, self._plan.files)
        self._story.enter(reader, row.looks)

    @property
    def readers(self):
        """The readers in the order in which they entered."""
        return tuple(self._story.rows)

    def do(self, step):
        """Do the next occurrence of the step, and return its number."""
        return self._story.do(step, len(self))

    def look(self, reader):
        """Make the next look of the reader, and return the edition that it shows."""
        return self._story.look(reader)

    def __iter__(self):
        raise TypeError("a desk is not iterated over; what told returns is")

    def __getitem__(self, at):
        """The present edition of a file."""
        return self._story.course.edition(at)

    def __len__(self):
        return len(self._story.deeds)

    def told(self):
        """The items so far."""
        return list(self._story.deeds)

    def passes(self):
        """The passes that have ended, as tuples (reader, editions), with None in the place of a set not taken."""
        return [(reader, copied(editions)) for reader, editions in self._story.ended]

    def possible(self):
        """The steps whose next occurrence is possible now."""
        return [step for step in self._plan.steps if self._story.course.lacking(step) is None]

    def known(self, reader):
        """For each file the least edition that it can have now, as far as the looks of the reader tell."""
        refuse_no_reader(self._story, reader)
        looks = [(file, edition) for other, file, edition in self._story.shown if other == reader]
        return least_editions(self._plan, looks)

    def __iadd__(self, other):
        """Do the items of a list one after another, or none of them if one is wrong."""
        story = same_story(self._story)
        perform(story, other)
        self._story = story
        return self

    def back(self, number=1):
        """Undo the last items."""
        if not is_count(number):
            raise BadNumber(number)
        if number > len(self):
            raise NothingBack()
        self._story = shortened(self._plan, self._story, len(self) - number)

    def trial(self):
        """An object for one with statement, at whose end the desk is what it was at its beginning."""
        return Trial(self)

    @property
    def wanted(self):
        """A copy of the wanted bounds, or None."""
        if self._wanted is None:
            return None
        return part_of(self._wanted, self._wanted.names)

    @wanted.setter
    def wanted(self, value):
        self.want(value)

    def want(self, bounds):
        """Set the wanted bounds, or none with None."""
        if bounds is None:
            self._wanted = None
        else:
            refuse_strangers(bounds.names, self._plan.files)
            self._wanted = part_of(bounds, bounds.names)

    def broken(self):
        """The places of the passes that took a set in which some wanted entry is not met."""
        if self._wanted is None:
            return []
        return [
            place for place, (_, editions) in enumerate(self._story.ended)
            if editions is not None and misses(self._wanted, editions)
        ]


def tried(desk, items):
    """The editions that the looks among these items would show; the desk stays as it is."""
    return perform(same_story(desk._story), items)


class Story:
    """What has happened at a desk: the readers, the items so far and what has come of them."""

    def __init__(self, plan):
        self._plan = plan
        self.course = Course(plan)
        self.rows = {}
        self.deeds = []
        # What the looks have shown, as tuples (reader, file, edition).
        self.shown = []
        # The passes, as tuples (reader, editions or None).
        self.ended = []
        # For each reader the place of the next look, and the editions that this pass has shown so far. These dicts
        # are replaced and not changed, so that copies may share them.
        self._stands = {}

    def enter(self, reader, looks):
        """Add a reader with a row of these looks."""
        self.rows[reader] = looks
        self._stands[reader] = (0, {})

    def do(self, step, place):
        """Do the next occurrence of the step, and return its number; place is what NotYet tells."""
        number = self.course.occur(step, place)
        self.deeds.append(("do", step))
        return number

    def look(self, reader):
        """Make the next look of the reader, and return the edition that it shows."""
        refuse_no_reader(self, reader)
        looks = self.rows[reader]
        place, editions = self._stands[reader]
        file = looks[place]
        edition = self.course.edition(file)
        self.deeds.append(("look", reader, file))
        self.shown.append((reader, file, edition))
        more = {**editions, file: edition}
        if editions.get(file, edition) != edition:
            self.end_pass(reader, None)
        elif place + 1 == len(looks):
            self.end_pass(reader, more)
        else:
            self._stands[reader] = (place + 1, more)
        return edition

    def end_pass(self, reader, editions):
        """End the pass of the reader with a set or with None; its next look is the first one of its row."""
        self.ended.append((reader, editions))
        self._stands[reader] = (0, {})


class Trial:
    """The object for a with statement in which a desk may be used and at whose end it is as before."""

    def __init__(self, desk):
        self._desk = desk
        self._kept_story = None
        self._kept_wanted = None

    def __enter__(self):
        desk = self._desk
        self._kept_story = desk._story
        self._kept_wanted = desk._wanted
        desk._story = same_story(desk._story)
        return self

    def __exit__(self, kind, value, trace):
        desk = self._desk
        desk._story = self._kept_story
        desk._wanted = self._kept_wanted


def refuse_no_reader(story, reader):
    """Raise NoReader if there is no reader of this name."""
    if not isinstance(reader, str) or reader not in story.rows:
        raise NoReader(reader)


def perform(story, items):
    """Do the items one after another, and return the editions that the looks among them show."""
    shown = []
    for place, item in enumerate(items):
        if is_occurrence(item):
            story.do(item[1], place)
        elif is_reader_look(item):
            shown.append(story.look(item[1]))
        else:
            raise BadItem(place)
    return shown


def is_reader_look(item):
    """Whether the item has the form ("look", reader) with a string."""
    return begins_with(item, "look") and len(item) == 2 and isinstance(item[1], str)


def same_story(story):
    """A story of its own with the same past."""
    made = Story(story._plan)
    made.course = same_course(story.course)
    made.rows = {reader: story.rows[reader] for reader in story.rows}
    made.deeds = list(story.deeds)
    made.shown = list(story.shown)
    made.ended = list(story.ended)
    made._stands = {reader: story._stands[reader] for reader in story._stands}
    return made


def shortened(plan, story, count):
    """The story of the same readers in which only the first items, so many of them, have happened."""
    made = Story(plan)
    for reader in story.rows:
        made.enter(reader, story.rows[reader])
    perform(made, [item[:2] for item in story.deeds[:count]])
    return made


def misses(wanted, editions):
    """Whether editions miss an entry of the wanted bounds for two of their files."""
    part = part_of(wanted, editions)
    return len(part(editions)) > 0


def copied(editions):
    """A copy of a set, or None for None."""
    if editions is None:
        return None
    return {file: editions[file] for file in editions}
