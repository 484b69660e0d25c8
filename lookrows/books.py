"""Books: a plan, rows with names and wishes in one place, and their text."""

from lookrows.basics import is_name, refuse_strangers
from lookrows.bounds import Bounds, part_of
from lookrows.errors import BadLine, BadName, LookError, NoRow
from lookrows.plans import Plan
from lookrows.rows import Row
from lookrows.taking import taken
from lookrows.wishes import missed_pairs, wished_pairs

DIGITS = "0123456789"
MOST_DIGITS = 60


class Book:
    """A plan, rows with names, and wishes about the files of the plan."""

    def __init__(self):
        self._plan = Plan()
        self._rows = {}
        self._wishes = Bounds(())

    @property
    def plan(self):
        """A copy of the plan."""
        return self._plan.copy()

    @property
    def wishes(self):
        """A copy of the wishes."""
        return part_of(self._wishes, self._wishes.names)

    @property
    def names(self):
        """The names of the rows in the order in which they were first set."""
        return tuple(self._rows)

    def __len__(self):
        return len(self._rows)

    def __contains__(self, x):
        return isinstance(x, str) and x in self._rows

    def __iter__(self):
        raise TypeError("a book is not iterated over; its names are")

    def __getitem__(self, at):
        """The row of this name."""
        if at not in self:
            raise NoRow(at)
        return Row(self._rows[at].looks)

    def __setitem__(self, at, worth):
        """Set the row of this name."""
        if not is_name(at):
            raise BadName(at)
        refuse_strangers(worth.files, self._plan.files)
        self._rows[at] = Row(worth.looks)

    @classmethod
    def read(cls, text):
        """The book that a text describes."""
        book = cls()
        for number, line in enumerate(text.split("\n"), start=1):
            if line != "":
                read_line(book, number, line)
        return book

    def change(self, plan=None, wishes=None):
        """Replace the plan and the wishes; None leaves what there is, as far as the plan allows it."""
        changed = self._plan if plan is None else plan.copy()
        for name in self._rows:
            refuse_strangers(self._rows[name].files, changed.files)
        if wishes is not None:
            refuse_strangers(wishes.names, changed.files)
        old = self._wishes if wishes is None else wishes
        self._wishes = Bounds(changed.files) & part_of(old, changed.files)
        self._plan = changed

    def written(self):
        """The text of the book."""
        lines = []
        for step in self._plan.steps:
            files = self._plan.files_of(step)
            lines.append(["step", step, *files])
        for p, q, shift in self._plan.rules():
            lines.append(["rule", p, q, str(shift)])
        for name in self._rows:
            looks = self._rows[name].looks
            lines.append(["row", name, *looks])
        for a, b in wished_pairs(self._wishes):
            lines.append(["wish", a, b, str(self._wishes[a, b])])
        return "".join([" ".join(words) + "\n" for words in lines])

    def report(self):
        """For each row what a reader with it can take, as a text."""
        return "".join([row_report(self._plan, name, self._rows[name]) for name in self._rows])

    def keeping(self):
        """The names of the rows that keep the wishes about the files that they look at."""
        return [name for name in self._rows if keeps(self._plan, self._rows[name], self._wishes)]


def keeps(plan, row, wishes):
    """Whether the row keeps the wishes about pairs of its files."""
    return not missed_pairs(taken(plan, row), part_of(wishes, row.files))


def row_report(plan, name, row):
    """The lines of the report for a row."""
    lines = [f"{name:<8} {len(row):>3}\n"]
    table = taken(plan, row)
    for a in row.files:
        for b in row.files:
            if a != b:
                entry = "-" if table[a, b] is None else str(table[a, b])
                lines.append(f"  {a:<8} {b:<8} {entry:>6}\n")
    return "".join(lines)


def read_line(book, number, line):
    """Add to the book what the line with this number says."""
    words = line.split(" ")
    if not is_form(words):
        raise BadLine(number)
    try:
        add_words(book, words)
    except LookError as error:
        raise BadLine(number) from error


def is_form(words):
    """Whether these words may form a line."""
    if "" in words:
        return False
    if words[0] in ("step", "row"):
        return len(words) >= 2
    if len(words) != 4:
        return False
    number = words[3]
    if words[0] == "wish" and number[0] == "-" and number != "-0":
        number = number[1:]
    return words[0] in ("rule", "wish") and is_written_number(number)


def is_written_number(text):
    """Whether the text is an integer of at least 0 with up to 60 digits and without leading zeros."""
    if not 1 <= len(text) <= MOST_DIGITS or not all([character in DIGITS for character in text]):
        return False
    return text == "0" or text[0] != "0"


def add_words(book, words):
    """Add to the book what the words of a line say."""
    word, name, *rest = words
    if word == "step":
        plan = book.plan
        plan.define(name, *rest)
        book.change(plan)
    elif word == "rule":
        plan = book.plan
        plan[name, rest[0]] = int(rest[1])
        book.change(plan)
    elif word == "row":
        book[name] = Row(rest)
    else:
        wishes = book.wishes
        wishes[name, rest[0]] = int(rest[1])
        book.change(None, wishes)
