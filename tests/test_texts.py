"""Book.read and written: promises [67] and [68]."""

from random import Random

from lookrows.books import Book
from lookrows.errors import (
    BadLine, BadName, BadNumber, LookError, NameTaken, NoFile, NoStep, SameFile, SameStep, ZeroRing,
)
from lookrows.rows import Row
from tests.cases import Case
from tests.readers import drawn_plan, row_of
from tests.samples import bounds_of, entries, great_plan, plan_of, state
from tests.test_books import book_of, told_by

TEXT = (
    "step p a b\n"
    "step q\n"
    "step r c\n"
    "rule p q 0\n"
    "rule q r 99\n"
    "row x c a c\n"
    "row y\n"
    "wish a b 0\n"
    "wish c a -7\n"
)


class ReadTest(Case):
    def bad(self, text, line, cause=None):
        """The text is refused for this line, with an error of this class as the cause."""
        with self.assertRaises(BadLine) as caught:
            Book.read(text)
        self.assertIs(caught.exception.__class__, BadLine)
        self.assertEqual(caught.exception.line, line)
        found = caught.exception.__cause__
        self.assertIs(None if found is None else found.__class__, cause, text)
        if found is not None:
            self.assertIsInstance(found, LookError)
        return found

    def test_each_form_of_a_line(self):
        book = Book.read(TEXT)
        self.assertIsInstance(book, Book)
        self.assertEqual(state(book.plan), state(plan_of([("p", "a", "b"), ("q",), ("r", "c")], ("p", "q", 0), (
            "q", "r", 99,
        ))))
        self.assertEqual((book.names, book["x"].looks, book["y"].looks), (("x", "y"), ("c", "a", "c"), ()))
        self.assertEqual(entries(book.wishes), (("a", "b", "c"), {("a", "b"): 0, ("c", "a"): -7}))

    def test_empty_texts_and_lines(self):
        for text in ["", "\n", "\n\n\n"]:
            self.assertEqual(told_by(Book.read(text)), told_by(Book()))
        whole = told_by(Book.read(TEXT))
        self.assertEqual(told_by(Book.read(TEXT[:-1])), whole)
        self.assertEqual(told_by(Book.read("\n\n" + TEXT.replace("\n", "\n\n") + "\n")), whole)

    def test_lines_in_any_order_that_is_possible(self):
        book = Book.read("step p a\nrow r a a\nstep q b\nwish b a 5\nrule q p 3\nrow s b\nstep r c\nrow r c\n")
        self.assertEqual((book.plan.files, book.names, book["r"].looks), (("a", "b", "c"), ("r", "s"), ("c",)))
        self.assertEqual(entries(book.wishes), (("a", "b", "c"), {("b", "a"): 5}))

    def test_what_stands_later_counts(self):
        book = Book.read("step p a b\nstep q\nrule p q 3\nrule p q 1\nwish a b 4\nwish a b -4\nrow r a\nrow r b\n")
        self.assertEqual((book.plan.rules(), book.wishes["a", "b"], book["r"].looks), ([("p", "q", 1)], -4, ("b",)))

    def test_words_that_are_names(self):
        book = Book.read("step step step rule\nstep row row\nrow wish step row\nrule step row 7\nwish rule row 1")
        self.assertEqual((book.plan.steps, book["wish"].looks), (("step", "row"), ("step", "row")))

    def test_spaces(self):
        for line in [
            " step p", "step p ", "step  p", "step p  a", " ", "  ", "step p a ", "row r ", "row  r", " row r",
            "rule p q 1 ", "rule p  q 1", " rule p q 1", "wish a b 1 ", " wish a b 1", "wish a  b 1", "step p a\t",
            "step\tp",
        ]:
            text = "step p a b\nstep q\n" + line.replace("step p", "step z").replace("z a", "z c") + "\n"
            cause = BadName if "\t" in line and line != "step\tp" else None
            self.bad(text, 3, cause)

    def test_unknown_words(self):
        for line in ["steps z", "Step z", "STEP z", "rules p q 1", "look", "x", "-", "0", "wishes a b 1", "stepz", "#"]:
            self.bad("step p a b\nstep q\n" + line, 3)

    def test_too_few_and_too_many_words(self):
        for line in [
            "step", "row", "rule", "wish", "rule p", "rule p q", "rule p q 1 2", "rule p q 1 q", "wish a", "wish a b",
            "wish a b 1 2", "rule 1", "wish 1", "rule p q r 1", "wish a b b 1",
        ]:
            self.bad("step p a b\nstep q\nstep r\n" + line, 4)

    def test_numbers_of_rules(self):
        for word in ["0", "1", "9", "10", "99"]:
            self.assertEqual(Book.read(f"step p\nstep q\nrule p q {word}").plan["p", "q"], int(word))
        for word in [
            "00", "01", "-1", "-0", "+1", "1.0", "1e1", "0x1", "one", "1_0", "", "-", "1-", "--1", "\u0661", "\u00b2",
            "9" * 61, "0" * 61, "007", "1,0", "None",
        ]:
            self.bad(f"step p\nstep q\nrule p q {word}\nx", 3)
        for word in ["100", "9" * 60, "1" + "0" * 59]:
            cause = self.bad(f"step p\nstep q\nrule p q {word}", 3, BadNumber)
            self.assertEqual(cause.value, int(word))

    def test_numbers_of_wishes(self):
        for word in ["0", "1", "-1", "10", "-10", "100", "-999", "9" * 60, "-" + "9" * 60, "1" + "0" * 59]:
            self.assertEqual(Book.read(f"step p a b\nwish a b {word}").wishes["a", "b"], int(word))
        for word in [
            "00", "01", "-0", "-00", "-01", "+1", "--1", "-", "1-", "-1.0", "1e1", "one", "- 1", "-\u0661", "\u00b2",
            "9" * 61, "-" + "9" * 61, "None", "1_0", "-1_0",
        ]:
            self.bad(f"step p a b\nwish a b {word}\nx", 2)

    def test_errors_of_the_package(self):
        begin = "step p a b\nstep q c\nrule p q 0\nrow r a\n"
        for line, error, told in [
            ("step P", BadName, "P"), ("step p2 a9 A", BadName, "A"), ("step longername", BadName, "longername"),
            ("step 1a", BadName, "1a"), ("step p", NameTaken, "p"), ("step s d b", NameTaken, "b"),
            ("step s d d", NameTaken, "d"), ("rule p x 1", NoStep, "x"), ("rule x y 1", NoStep, "x"),
            ("rule a q 1", NoStep, "a"), ("row R a", BadName, "R"), ("row s a d", NoFile, "d"),
            ("row s p", NoFile, "p"), ("row s a A", BadName, "A"), ("wish a d 1", NoFile, "d"),
            ("wish d e -1", NoFile, "d"), ("wish p a 1", NoFile, "p"), ("wish A b 1", NoFile, "A"),
        ]:
            self.assertEqual(self.bad(begin + line + "\n", 5, error).name, told)
        self.assertEqual(self.bad(begin + "rule p p 1", 5, SameStep).name, "p")
        self.assertEqual(self.bad(begin + "wish b b 1", 5, SameFile).name, "b")
        self.assertEqual(sorted(self.bad(begin + "rule q p 0", 5, ZeroRing).members), ["p", "q"])

    def test_only_what_stands_before_counts(self):
        self.bad("row r a\nstep p a\n", 1, NoFile)
        self.bad("step p a\nwish a b 1\nstep q b\n", 2, NoFile)
        self.bad("step p a\nrule p q 1\nstep q b\n", 2, NoStep)

    def test_the_first_wrong_line_counts(self):
        self.bad("\n\nstep p a\n\nstep p\nwrong\n", 5, NameTaken)
        self.bad("\nwrong\nstep P\n", 2)
        self.bad(TEXT + "\n\nx", 12)

    def test_other_characters(self):
        for mark in "\t\r\x00\x0b\x0c\x1c\x7f\x85\u00a0\u00e4\u2028\ufeff":
            for line in [mark, f"step z{mark}", f"{mark}step z", f"row s a{mark}", f"wish a b {mark}", f"step{mark}z"]:
                with self.assertRaises(BadLine) as caught:
                    Book.read("step p a b\n" + line + "\nstep p")
                self.assertEqual(caught.exception.line, 2)

    def test_the_error_can_be_read(self):
        try:
            Book.read("step p\nstep p")
        except LookError as error:
            self.assertEqual(error.line, 2)


class WrittenTest(Case):
    def test_all_lines(self):
        self.assertEqual(Book.read(TEXT).written(), TEXT)
        self.assertEqual(Book().written(), "")

    def test_the_order_of_the_lines(self):
        rules = [("q", "p", 4), ("p", "r", 0), ("r", "q", 10), ("q", "r", 5)]
        plan = plan_of([("r", "c"), ("p",), ("q", "b", "a")], *rules)
        wishes = bounds_of("a c b", ("a", "b", 1), ("c", "a", 10), ("b", "c", -3), ("c", "b", 0))
        book = book_of(plan, wishes, z="cbc", a="", m="b")
        book["z"] = row_of("aa")
        self.assertEqual(book.written(), (
            "step r c\nstep p\nstep q b a\n"
            "rule r q 10\nrule p r 0\nrule q r 5\nrule q p 4\n"
            "row z a a\nrow a\nrow m b\n"
            "wish c b 0\nwish c a 10\nwish b c -3\nwish a b 1\n"
        ))

    def same(self, book):
        text = book.written()
        again = Book.read(text)
        self.assertEqual(told_by(again), told_by(book))
        self.assertEqual(again.written(), text)

    def test_reading_what_was_written(self):
        random = Random(1)
        for _ in range(60):
            plan = drawn_plan(random, random.randint(1, 5), random.randint(0, 5), 99)
            book = book_of(plan)
            wishes = book.wishes
            for a in plan.files:
                for b in plan.files:
                    if a != b and random.random() < 0.4:
                        wishes[a, b] = random.choice([0, 1, -1, 7, -10, 10 ** 60 - 1, -10 ** 60 + 1])
            book.change(None, wishes)
            for k in range(random.randint(0, 4)):
                if plan.files:
                    book[f"r{k % 3}"] = Row([random.choice(plan.files) for _ in range(random.randint(0, 5))])
            self.same(book)

    def test_a_great_book(self):
        book = book_of(great_plan())
        wishes = book.wishes
        for a in wishes.names:
            for b in wishes.names:
                if a != b:
                    wishes[a, b] = -10 ** 60 + 1
        book.change(None, wishes)
        for k in range(30):
            book[f"row{k}"] = Row([f"f{(7 * i + k) % 10}" for i in range(40)])
        self.assertGreater(len(book.written()), 6000)
        again = Book.read(book.written())
        self.assertEqual(again.written(), book.written())
        self.assertEqual(state(again.plan), state(book.plan))

    def test_a_wish_with_more_digits(self):
        book = book_of(plan_of([("p", "a", "b")]), bounds_of("a b", ("a", "b", 10 ** 60)))
        with self.assertRaises(BadLine) as caught:
            Book.read(book.written())
        self.assertEqual(caught.exception.line, 2)
