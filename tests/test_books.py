"""Book, its rows, plan and wishes, and its report: promises [65], [66] and [69]."""

from itertools import permutations
from random import Random
from unittest.mock import patch

from lookrows.books import Book
from lookrows.bounds import Bounds
from lookrows.errors import BadName, NoFile, NoRow
from lookrows.plans import Plan
from lookrows.rows import Row
from lookrows.taking import taken
from lookrows.wishes import broken
from tests.cases import Case
from tests.readers import drawn_plan, row_of
from tests.samples import NOT_NAMES, Hostile, bounds_of, entries, great_plan, plan_of, state


def told_by(book):
    """All that a book tells."""
    rows = [book[name].looks for name in book.names]
    return (
        state(book.plan), book.names, len(book), rows, entries(book.wishes), book.written(), book.report(),
        book.keeping(),
    )


def book_of(plan, wishes=None, **rows):
    """A book with rows that look at files with names of one character."""
    book = Book()
    book.change(plan, wishes)
    for name, looks in rows.items():
        book[name] = row_of(looks)
    return book


def put(book, name, row):
    book[name] = row


class RowsTest(Case):
    def test_a_new_book(self):
        book = Book()
        self.assertEqual(told_by(book), (state(Plan()), (), 0, [], ((), {}), "", "", []))
        self.assertIsInstance(book.plan, Plan)
        self.assertIsInstance(book.wishes, Bounds)
        self.assertIsInstance(book.names, tuple)
        self.assertNotIn("a", book)

    def test_rows_in_their_order(self):
        book = book_of(plan_of([("p", "a", "b")]))
        book["z"] = row_of("ab")
        book["a"] = Row([])
        book["m"] = row_of("bab")
        self.assertEqual((book.names, len(book)), (("z", "a", "m"), 3))
        self.assertEqual([book[name].looks for name in book.names], [("a", "b"), (), ("b", "a", "b")])
        self.assertIsInstance(book["z"], Row)
        # A row that is set again keeps its place.
        book["a"] = row_of("b")
        book["z"] = row_of("bb")
        self.assertEqual((book.names, len(book)), (("z", "a", "m"), 3))
        self.assertEqual([book[name].looks for name in book.names], [("b", "b"), ("b",), ("b", "a", "b")])

    def test_in(self):
        book = book_of(plan_of([("p", "a")]), r="a")
        self.assertIs("r" in book, True)
        for x in ["a", "p", "", "rr", None, 0, True, ["r"], ("r",), b"r", Hostile()]:
            self.assertIs(x in book, False)

    def test_rows_that_are_missing(self):
        book = book_of(plan_of([("p", "a")]), r="a")
        for name in ["a", "p", "", "s", "R", None, 0, ["r"], Hostile()]:
            self.refused(NoRow, name, lambda: book[name])

    def test_rows_that_are_refused(self):
        book = book_of(plan_of([("p", "a")]), r="a")
        before = told_by(book)
        for name in NOT_NAMES + [Hostile()]:
            self.refused(BadName, name, put, book, name, row_of("x"))
        self.refused(NoFile, "x", put, book, "s", row_of("axya"))
        self.refused(NoFile, "p", put, book, "r", Row(["p"]))
        self.assertEqual(told_by(book), before)

    def test_a_book_is_not_iterated_over(self):
        with self.assertRaises(TypeError):
            list(book_of(plan_of([("p", "a")]), r="a"))

    def test_what_is_given_is_new(self):
        book = book_of(plan_of([("p", "a"), ("q", "b")]), bounds_of("a b", ("a", "b", 1)), r="ab")
        before = told_by(book)
        plan, wishes, row = book.plan, book.wishes, book["r"]
        plan.define("x", "c")
        plan["p", "q"] = 0
        wishes["a", "b"] = 7
        wishes &= bounds_of("c")
        row *= 2
        book.keeping().append("x")
        self.assertEqual(told_by(book), before)


class ChangeTest(Case):
    def setUp(self):
        self.plan = plan_of([("p", "a"), ("q", "b", "c")], ("p", "q", 0))
        self.wishes = bounds_of("c a", ("a", "c", 3), ("c", "a", -2))
        self.book = book_of(self.plan, self.wishes, r="ab", s="")

    def test_both(self):
        self.assertEqual(state(self.book.plan), state(self.plan))
        self.assertEqual(entries(self.book.wishes), (("a", "b", "c"), {("a", "c"): 3, ("c", "a"): -2}))

    def test_what_was_passed_is_not_shared(self):
        before = told_by(self.book)
        self.plan.define("x", "d")
        self.plan["p", "q"] = None
        self.wishes["a", "c"] = None
        self.wishes &= bounds_of("b")
        self.assertEqual(told_by(self.book), before)
        given = plan_of([("p", "a", "b", "c")])
        wanted = bounds_of("b a", ("b", "a", 1))
        kept = state(given), entries(wanted)
        self.book.change(given, wanted)
        self.assertEqual((state(given), entries(wanted)), kept)

    def test_nothing(self):
        before = told_by(self.book)
        self.assertIsNone(self.book.change())
        self.book.change(None, None)
        self.book.change(plan=None)
        self.assertEqual(told_by(self.book), before)

    def test_a_plan_alone(self):
        self.book.change(plan_of([("x", "c", "d"), ("y", "b", "a")]))
        self.assertEqual(self.book.plan.steps, ("x", "y"))
        self.assertEqual(entries(self.book.wishes), (("c", "d", "b", "a"), {("a", "c"): 3, ("c", "a"): -2}))
        self.book.change(plan_of([("x", "b", "a")]))
        self.assertEqual(entries(self.book.wishes), (("b", "a"), {}))
        # What is gone does not come back.
        self.book.change(self.plan)
        self.assertEqual(entries(self.book.wishes), (("a", "b", "c"), {}))
        self.assertEqual(self.book.names, ("r", "s"))

    def test_wishes_alone(self):
        self.book.change(None, bounds_of("b a", ("b", "a", 9)))
        self.assertEqual(entries(self.book.wishes), (("a", "b", "c"), {("b", "a"): 9}))
        self.assertEqual(state(self.book.plan), state(self.plan))
        self.book.change(wishes=bounds_of(""))
        self.assertEqual(entries(self.book.wishes), (("a", "b", "c"), {}))
        self.book.change(None, bounds_of("c b a", ("c", "b", -10 ** 60 + 1), ("a", "b", 10 ** 60 - 1)))
        self.assertEqual(self.book.wishes["c", "b"], -10 ** 60 + 1)

    def test_wishes_about_files_of_the_new_plan(self):
        self.book.change(plan_of([("x", "d"), ("y", "a", "b")]), bounds_of("d a", ("d", "a", 1)))
        self.assertEqual(entries(self.book.wishes), (("d", "a", "b"), {("d", "a"): 1}))

    def test_refusals(self):
        self.book["t"] = row_of("cb")
        before = told_by(self.book)
        change = self.book.change
        self.refused(NoFile, "a", change, plan_of([("p", "b")]), bounds_of("x"))
        self.refused(NoFile, "b", change, plan_of([("p", "a", "x")]), bounds_of("y"))
        self.refused(NoFile, "c", change, plan_of([("p", "a", "b")]), bounds_of("y"))
        self.refused(NoFile, "y", change, plan_of([("p", "a", "b", "c")]), bounds_of("a y x"))
        self.refused(NoFile, "x", change, None, bounds_of("c x y a"))
        self.refused(NoFile, "d", change, None, bounds_of("d"))
        self.refused(NoFile, "a", change, Plan())
        self.assertEqual(told_by(self.book), before)

    def test_rows_see_the_new_plan(self):
        self.assertIn("  b        a             -\n", self.book.report())
        self.book["t"] = row_of("ba")
        self.assertIn("  b        a             0\n", self.book.report())
        self.book.change(plan_of([("p", "a"), ("q", "b", "c")], ("p", "q", 41)))
        self.assertIn("  b        a            41\n", self.book.report())


class ReportTest(Case):
    def test_the_examples_of_the_document(self):
        plan = plan_of([("p", "a"), ("q", "b")], ("p", "q", 0))
        self.assertEqual(book_of(plan, r="ab").report(), (
            "r          2\n"
            "  a        b             -\n"
            "  b        a             -\n"
        ))
        self.assertEqual(book_of(plan, r="ba").report(), (
            "r          2\n"
            "  b        a             0\n"
            "  a        b             -\n"
        ))

    def test_rows_without_looks_and_with_one_file(self):
        plan = plan_of([("p", "a")])
        self.assertEqual(book_of(plan, r="", longname="aaa").report(), "r          0\nlongname   3\n")
        self.assertEqual(Book().report(), "")

    def test_long_names_and_wide_entries(self):
        names = [f"file{k:04}" for k in range(3)]
        plan = plan_of([("p", names[0], names[1]), ("q", names[2])], ("q", "p", 99))
        book = book_of(plan)
        book["r2345678"] = Row(names * 2)
        book["x"] = Row(names[:1] * 1000)
        self.assertEqual(book.report(), (
            "r2345678   6\n"
            "  file0000 file0001      0\n"
            "  file0000 file0002     99\n"
            "  file0001 file0000      0\n"
            "  file0001 file0002     99\n"
            "  file0002 file0000      -\n"
            "  file0002 file0001      -\n"
            "x        1000\n"
        ))

    def test_entries_that_are_wider_than_their_column(self):
        # No plan that is small enough to be made has such entries, so the table comes from elsewhere.
        book = book_of(plan_of([("p", "a"), ("q", "b")]), r="ab")
        wide = bounds_of("a b", ("a", "b", 1234567), ("b", "a", -123456))
        with patch("lookrows.books.taken", lambda plan, row: wide):
            self.assertEqual(book.report(), "r          2\n  a        b        1234567\n  b        a        -123456\n")

    def test_closed_entries(self):
        plan = plan_of([("p", "a"), ("q", "b"), ("r", "c")], ("q", "p", 1), ("r", "q", 2), ("r", "p", 70))
        self.assertEqual(book_of(plan, r="cabc").report().splitlines()[1:], [
            "  c        a             -", "  c        b             -", "  a        c             3",
            "  a        b             1", "  b        c             2", "  b        a             -",
        ])

    def test_drawn_books(self):
        random = Random(1)
        for _ in range(60):
            plan = drawn_plan(random, random.randint(1, 4), random.randint(1, 4), 99)
            book = book_of(plan)
            lines = []
            for k in range(3):
                row = Row([random.choice(plan.files) for _ in range(random.randint(0, 12))])
                book[f"r{k}"] = row
                lines.append(f"r{k}       " + str(len(row)).rjust(3))
                for a, b in permutations(row.files, 2):
                    n = taken(plan, row)[a, b]
                    text = "-" if n is None else str(n)
                    lines.append("  " + a + " " * (9 - len(a)) + b + " " * (8 - len(b)) + text.rjust(7))
            self.assertEqual(book.report(), "".join(line + "\n" for line in lines))

    def test_a_great_book(self):
        book = book_of(great_plan())
        book["r"] = Row([f"f{7 * k % 10}" for k in range(40)])
        self.assertEqual(len(book.report().splitlines()), 91)


class KeepingTest(Case):
    def test_rows_that_keep_the_wishes(self):
        plan = plan_of([("p", "a"), ("q", "b"), ("r", "c")], ("p", "q", 0))
        rows = {"r": "ab", "s": "ba", "t": "a", "u": "", "v": "cba", "w": "cab", "x": "bac"}
        book = book_of(plan, bounds_of("b a", ("b", "a", 0)), **rows)
        found = book.keeping()
        self.assertEqual(found, ["s", "t", "u", "v", "x"])
        self.assertIsInstance(found, list)
        # Wishes about files that a row does not look at do not count for it.
        book.change(None, bounds_of("c b a", ("b", "a", 0), ("c", "a", 5)))
        self.assertEqual(book.keeping(), ["s", "t", "u"])
        book.change(None, bounds_of("b a", ("b", "a", -1)))
        self.assertEqual(book.keeping(), ["t", "u"])
        book.change(None, bounds_of(""))
        self.assertEqual(book.keeping(), list("rstuvwx"))

    def test_drawn_books(self):
        random = Random(2)
        found = {True: 0, False: 0}
        for _ in range(100):
            plan = drawn_plan(random, random.randint(1, 4), 4, 2)
            wishes = Bounds(plan.files)
            for a, b in permutations(plan.files, 2):
                if random.random() < 0.3:
                    wishes[a, b] = random.randint(-1, 6)
            row = Row([random.choice(plan.files) for _ in range(random.randint(0, 5))])
            part = Bounds(row.files)
            for a, b in permutations(row.files, 2):
                part[a, b] = wishes[a, b]
            book = book_of(plan, wishes)
            book["r"] = row
            kept = broken(plan, row, part) is None
            self.assertEqual(book.keeping(), ["r"] if kept else [])
            found[kept] += 1
        self.assertGreater(min(found.values()), 20)
