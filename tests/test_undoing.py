"""back, trial and tried: promises [62] and [63]."""

from random import Random

from lookrows.desks import Desk, tried
from lookrows.errors import BadItem, BadNumber, NoStep, NothingBack, NotYet
from lookrows.rows import Row
from tests.cases import Case
from tests.readers import drawn_plan, row_of
from tests.samples import NOT_INTEGERS, Hostile, bounds_of, plan_of
from tests.stories import SlowDesk, told_by
from tests.test_desks import add, desk_of, do_all


class Stop(Exception):
    """An error that does not come from the package."""


class BackTest(Case):
    def setUp(self):
        self.plan = plan_of([("p", "a"), ("q", "b")], ("p", "q", 0))
        self.desk = desk_of(self.plan, r="aba", s="b")

    def check(self, text, many, *values, **more):
        """Undoing so many of the items of a text leaves the desk as if they had never been done."""
        desk, other = desk_of(self.plan, r="aba", s="b"), desk_of(self.plan, r="aba", s="b")
        do_all(desk, text)
        words = text.split()
        do_all(other, " ".join(words[:len(words) - many]))
        self.assertIsNone(desk.back(*values, **more))
        self.assertEqual(told_by(desk, self.plan), told_by(other, self.plan))

    def test_one_item(self):
        for text in ["p", "!r", "p !r q !r !r", "!r !r p !r", "p !s", "!r !r p", "p q p q !s !r"]:
            self.check(text, 1)
            self.check(text, 1, 1)
            self.check(text, 1, number=1)

    def test_several_items(self):
        text = "p !r q !r p !r !s !r !r q !r !s !r p"
        for number in range(15):
            self.check(text, number, number)

    def test_no_items(self):
        self.check("p !r", 0, 0)
        self.check("", 0, 0)

    def test_too_many(self):
        do_all(self.desk, "p !r")
        before = told_by(self.desk, self.plan)
        for number in [3, 4, 10 ** 59]:
            with self.assertRaises(NothingBack):
                self.desk.back(number)
        with self.assertRaises(NothingBack):
            desk_of(self.plan).back()
        self.assertEqual(told_by(self.desk, self.plan), before)
        self.desk.back(2)
        with self.assertRaises(NothingBack):
            self.desk.back()

    def test_numbers_that_are_none(self):
        do_all(self.desk, "p !r")
        before = told_by(self.desk, self.plan)
        for number in NOT_INTEGERS + [None, -1, Hostile()]:
            with self.assertRaises(BadNumber) as caught:
                self.desk.back(number)
            self.assertIs(caught.exception.value, number)
        self.assertEqual(told_by(self.desk, self.plan), before)

    def test_the_end_of_a_pass(self):
        do_all(self.desk, "!r !r p !r !r")
        self.assertEqual(self.desk.passes(), [("r", None)])
        self.desk.back(2)
        self.assertEqual(self.desk.passes(), [])
        # The reader is in the pass again, whose last look comes now.
        self.assertEqual((self.desk.look("r"), self.desk.passes()), (1, [("r", None)]))
        self.desk.back(2)
        self.assertEqual((self.desk.look("r"), self.desk.passes()), (0, [("r", {"a": 0, "b": 0})]))

    def test_a_reader_that_entered_between(self):
        do_all(self.desk, "p !r")
        self.desk.enter("t", row_of("ba"))
        do_all(self.desk, "!t q !t !t !r")
        self.desk.back(6)
        self.assertEqual(self.desk.readers, ("r", "s", "t"))
        self.assertEqual(self.desk.told(), [("do", "p")])
        do_all(self.desk, "!t !t !r")
        self.assertEqual(self.desk.told()[1:], [("look", "t", "b"), ("look", "t", "a"), ("look", "r", "a")])
        self.assertEqual(self.desk.passes(), [("t", {"a": 1, "b": 0})])
        self.desk.back(4)
        self.assertEqual((self.desk.readers, self.desk.told()), (("r", "s", "t"), []))

    def test_wanted_bounds_stay(self):
        do_all(self.desk, "p !s")
        self.desk.want(bounds_of("a b", ("a", "b", 0)))
        do_all(self.desk, "!r !r !r")
        self.assertEqual(self.desk.broken(), [1])
        self.desk.back(4)
        self.assertEqual(self.desk.wanted["a", "b"], 0)
        self.assertEqual(self.desk.broken(), [])

    def test_drawn_desks(self):
        random = Random(1)
        for _ in range(40):
            plan = drawn_plan(random, random.randint(1, 3), random.randint(1, 3), 2)
            desk, slow = Desk(plan), SlowDesk(plan)
            for k in range(40):
                if random.random() < 0.05 or not desk.readers:
                    looks = [random.choice(plan.files) for _ in range(random.randint(1, 4))]
                    desk.enter(f"r{k}", Row(looks))
                    slow.rows[f"r{k}"] = looks
                elif random.random() < 0.15 and len(desk):
                    number = random.randint(0, min(len(desk), 6))
                    desk.back(number)
                    slow.events = slow.events[:len(desk)]
                else:
                    items = [("look", random.choice(desk.readers))]
                    if desk.possible():
                        items.append(("do", random.choice(desk.possible())))
                    add(desk, items)
                    slow.events += items
            self.assertEqual(told_by(desk, plan), slow.all_told())


class TrialCase(Case):
    def setUp(self):
        self.plan = plan_of([("p", "a"), ("q", "b")], ("p", "q", 0))
        self.desk = desk_of(self.plan, r="aba", s="b")
        do_all(self.desk, "p !r !r !s q !s")
        self.desk.want(bounds_of("a b", ("a", "b", 3)))
        self.before = told_by(self.desk, self.plan)

    def kept(self):
        self.assertEqual(told_by(self.desk, self.plan), self.before)


class TrialTest(TrialCase):
    def spoil(self):
        """Change all that can be changed."""
        desk = self.desk
        do_all(desk, "p !s !r !r")
        desk.enter("t", row_of("aab"))
        do_all(desk, "!t !t")
        desk.back(7)
        add(desk, [("look", "s"), ("do", "p"), ("look", "t")])
        desk.wanted = bounds_of("b")

    def test_all_is_taken_back(self):
        with self.desk.trial():
            self.spoil()
            self.assertEqual((len(self.desk), self.desk.readers), (8, ("r", "s", "t")))
            self.assertEqual(self.desk.wanted.names, ("b",))
        self.kept()
        with self.desk.trial() as _:
            self.desk.want(None)
            self.desk.back(6)
            self.assertEqual(len(self.desk), 0)
        self.kept()
        with self.desk.trial():
            pass
        self.kept()

    def test_an_error_leaves_it(self):
        with self.assertRaises(Stop):
            with self.desk.trial():
                self.spoil()
                raise Stop
        self.kept()
        with self.assertRaises(NoStep):
            with self.desk.trial():
                do_all(self.desk, "!s p !r x")
        self.kept()

    def test_a_trial_in_a_trial(self):
        with self.desk.trial():
            do_all(self.desk, "p !s")
            between = told_by(self.desk, self.plan)
            with self.desk.trial():
                self.spoil()
            self.assertEqual(told_by(self.desk, self.plan), between)
            with self.assertRaises(Stop):
                with self.desk.trial():
                    self.desk.back(5)
                    raise Stop
            self.assertEqual(told_by(self.desk, self.plan), between)
            do_all(self.desk, "!s")
        self.kept()

    def test_two_trials_at_once(self):
        other = desk_of(self.plan, r="a")
        with self.desk.trial(), other.trial():
            self.spoil()
            do_all(other, "p !r")
        self.kept()
        self.assertEqual((len(other), other.passes()), (0, []))

    def test_it_begins_with_the_statement(self):
        trial = self.desk.trial()
        do_all(self.desk, "p")
        before = told_by(self.desk, self.plan)
        with trial:
            self.spoil()
        self.assertEqual(told_by(self.desk, self.plan), before)

    def test_return_out_of_a_trial(self):
        def go():
            with self.desk.trial():
                self.spoil()
                return self.desk.look("s")

        self.assertEqual(go(), 1)
        self.kept()

    def test_the_desk_goes_on_afterwards(self):
        with self.desk.trial():
            self.spoil()
        do_all(self.desk, "!r")
        self.assertEqual(self.desk.passes()[-1], ("r", {"a": 1, "b": 0}))


class TriedTest(TrialCase):
    def test_what_the_looks_show(self):
        items = [("look", "s"), ("do", "p"), ("look", "r"), ("do", "q"), ("look", "s"), ("look", "s")]
        kept = list(items)
        self.assertEqual(tried(self.desk, items), [1, 2, 2, 2])
        self.kept()
        self.assertEqual(items, kept)
        self.assertEqual(tried(self.desk, []), [])
        self.assertEqual(tried(self.desk, [("do", "p"), ("do", "p")]), [])
        self.assertIsInstance(tried(self.desk, items), list)
        self.kept()

    def test_wrong_items(self):
        for error, told, items in [
            (NotYet, (2, "p"), [("look", "s"), ("look", "r"), ("do", "q")]),
            (BadItem, 1, [("look", "s"), ("look", 0)]),
            (NoStep, "x", [("do", "p"), ("do", "x"), None]),
        ]:
            self.refused(error, told, tried, self.desk, items)
            self.kept()
