"""Desk and tried: promises [58] to [61] and [64]."""

from random import Random

from lookrows.bounds import Bounds
from lookrows.desks import Desk, tried
from lookrows.errors import BadItem, BadName, EmptyRow, NameTaken, NoFile, NoReader, NoStep, NotYet
from lookrows.logs import sure
from lookrows.plans import Plan
from lookrows.rows import Row
from lookrows.runs import watched
from lookrows.taking import taken
from tests.cases import ANY, Case
from tests.readers import drawn_plan, row_of
from tests.samples import NOT_NAMES, Hostile, bounds_of, entries, great_plan, plan_of, state
from tests.stories import SlowDesk, told_by


def desk_of(plan, **rows):
    """A desk with readers that look at files with names of one character."""
    desk = Desk(plan)
    for reader, looks in rows.items():
        desk.enter(reader, row_of(looks))
    return desk


def do_all(desk, text):
    """Do the words of a text: a step, or a reader with a mark in front."""
    for word in text.split():
        if word[0] == "!":
            desk.look(word[1:])
        else:
            desk.do(word)


def add(desk, items):
    """Add items to the very object."""
    before = desk
    desk += items
    assert desk is before


def want(desk, bounds):
    desk.want(bounds)


def assign(desk, bounds):
    desk.wanted = bounds


class EnterTest(Case):
    def test_readers_in_their_order(self):
        desk = Desk(plan_of([("p", "a"), ("q", "b")]))
        self.assertEqual(desk.readers, ())
        desk.enter("z", row_of("ab"))
        desk.enter("a", row_of("a"))
        desk.enter("p", row_of("bb"))
        self.assertEqual(desk.readers, ("z", "a", "p"))
        self.assertIsInstance(desk.readers, tuple)

    def test_errors_in_their_order(self):
        plan = plan_of([("p", "a"), ("q", "b")])
        desk = desk_of(plan, r="ab")
        before = told_by(desk, plan)
        for name in NOT_NAMES + [Hostile()]:
            self.refused(BadName, name, desk.enter, name, Row([]))
        self.refused(NameTaken, "r", desk.enter, "r", Row([]))
        self.refused(NameTaken, "r", desk.enter, "r", row_of("x"))
        self.refused(EmptyRow, ANY, desk.enter, "s", Row([]))
        self.refused(NoFile, "x", desk.enter, "s", row_of("axyb"))
        self.refused(NoFile, "p", desk.enter, "s", Row(["p"]))
        self.assertEqual(told_by(desk, plan), before)
        desk.enter("s", row_of("a"))
        self.assertEqual(desk.readers, ("r", "s"))

    def test_the_plan_is_a_copy(self):
        plan = plan_of([("p", "a"), ("q", "b")], ("p", "q", 0))
        one, two = desk_of(plan, r="ab"), desk_of(plan, r="ab")
        kept = plan.copy()
        plan["p", "q"] = None
        plan.define("s", "c")
        do_all(one, "p !r")
        self.refused(NotYet, (0, "p"), two.do, "q")
        self.refused(NoFile, "c", one.enter, "x", row_of("c"))
        self.refused(NoStep, "s", one.do, "s")
        self.assertEqual(told_by(two, kept)[1:6], ([], [], ["p"], 0, {"a": 0, "b": 0}))
        self.assertEqual(told_by(one, kept)[1:6], (
            [("do", "p"), ("look", "r", "a")], [], ["p", "q"], 2, {"a": 1, "b": 0},
        ))
        self.assertEqual((desk_of(plan).possible(), state(kept)[4]), (["p", "q", "s"], [("p", "q", 0)]))


class DoTest(Case):
    def test_numbers_of_occurrences(self):
        desk = desk_of(plan_of([("p", "a", "b"), ("q", "c")], ("p", "q", 1)))
        self.assertEqual([desk.do(step) for step in ["q", "p", "q", "p", "p"]], [1, 1, 2, 2, 3])
        self.assertEqual([desk[file] for file in "abc"], [3, 3, 2])
        self.assertEqual(len(desk), 5)

    def test_not_yet(self):
        plan = plan_of([("o",), ("p", "a"), ("q", "b")], ("p", "q", 0), ("o", "q", 0))
        desk = desk_of(plan, r="ab")
        self.refused(NotYet, (0, "o"), desk.do, "q")
        do_all(desk, "o !r !r !r")
        before = told_by(desk, plan)
        self.refused(NotYet, (4, "p"), desk.do, "q")
        self.assertEqual(told_by(desk, plan), before)
        do_all(desk, "p q")
        self.refused(NotYet, (6, "o"), desk.do, "q")

    def test_steps_that_are_missing(self):
        plan = plan_of([("p", "a")])
        desk = desk_of(plan, r="a")
        before = told_by(desk, plan)
        for step in ["r", "a", "q", None, 0, True, ["p"], ("p",), Hostile()]:
            self.refused(NoStep, step, desk.do, step)
        self.assertEqual(told_by(desk, plan), before)

    def test_files_that_are_missing(self):
        desk = desk_of(plan_of([("p", "a")]), r="a")
        for file in ["p", "r", "x", None, 0, True, ["a"], ("a",), Hostile()]:
            self.refused(NoFile, file, lambda: desk[file])

    def test_a_desk_is_not_iterated_over(self):
        with self.assertRaises(TypeError):
            list(desk_of(plan_of([("p", "a")]), r="a"))


class LookTest(Case):
    def test_a_pass_that_ends_with_a_set(self):
        desk = desk_of(plan_of([("p", "a"), ("q", "b")]), r="aba")
        self.assertEqual([desk.do("p"), desk.look("r"), desk.do("q"), desk.look("r")], [1, 1, 1, 1])
        self.assertEqual(desk.passes(), [])
        self.assertEqual(desk.look("r"), 1)
        self.assertEqual(desk.passes(), [("r", {"a": 1, "b": 1})])
        self.assertEqual((desk.look("r"), desk.told()[-1]), (1, ("look", "r", "a")))

    def test_a_pass_that_ends_at_once(self):
        desk = desk_of(plan_of([("p", "a"), ("q", "b")]), r="abaab")
        do_all(desk, "!r !r p")
        self.assertEqual((desk.look("r"), desk.passes()), (1, [("r", None)]))
        # The next look is the first one again, and what the pass before showed has no effect.
        do_all(desk, "!r !r !r !r")
        self.assertEqual(desk.told()[-4:], [("look", "r", file) for file in "abaa"])
        self.assertEqual(desk.passes(), [("r", None)])
        do_all(desk, "q !r")
        self.assertEqual(desk.passes(), [("r", None), ("r", None)])

    def test_another_edition_at_the_last_look(self):
        desk = desk_of(plan_of([("p", "a")]), r="aa", s="a")
        do_all(desk, "!r p !r !s p !s")
        self.assertEqual(desk.passes(), [("r", None), ("s", {"a": 1}), ("s", {"a": 2})])

    def test_passes_in_the_order_of_their_ends(self):
        desk = desk_of(plan_of([("p", "a"), ("q", "b")]), r="ab", s="b", t="ba")
        do_all(desk, "!r !s !t q !s !t !r")
        self.assertEqual(desk.passes(), [
            ("s", {"b": 0}), ("s", {"b": 1}), ("t", {"a": 0, "b": 0}), ("r", {"a": 0, "b": 1}),
        ])

    def test_readers_that_are_missing(self):
        plan = plan_of([("p", "a")])
        desk = desk_of(plan, r="a")
        before = told_by(desk, plan)
        for reader in ["p", "a", "s", None, 0, True, ["r"], ("r",), Hostile()]:
            self.refused(NoReader, reader, desk.look, reader)
            self.refused(NoReader, reader, desk.known, reader)
        self.assertEqual(told_by(desk, plan), before)


class ToldTest(Case):
    def test_what_is_known(self):
        plan = plan_of([("p", "a"), ("q", "b"), ("r", "c")], ("p", "q", 1))
        desk = desk_of(plan, x="ba", y="c")
        self.assertEqual(desk.known("x"), {"a": 0, "b": 0, "c": 0})
        do_all(desk, "p p p q q q !x")
        self.assertEqual(desk.known("x"), {"a": 2, "b": 3, "c": 0})
        do_all(desk, "!x r")
        self.assertEqual(desk.known("x"), {"a": 3, "b": 3, "c": 0})
        self.assertEqual(desk.known("y"), {"a": 0, "b": 0, "c": 0})
        do_all(desk, "!y")
        self.assertEqual((desk.known("x")["c"], desk.known("y")), (0, {"a": 0, "b": 0, "c": 1}))

    def test_what_is_known_from_many_looks(self):
        plan = plan_of([("p", "a"), ("q", "b")], ("p", "q", 0))
        desk = desk_of(plan, x="ab")
        do_all(desk, "p q !x !x " * 100)
        self.assertEqual(desk.known("x"), {"a": 100, "b": 100})
        self.assertEqual((len(desk), len(desk.passes())), (400, 100))

    def test_lists_and_dicts_are_new(self):
        plan = plan_of([("p", "a"), ("q", "b")])
        desk = desk_of(plan, x="ab")
        do_all(desk, "!x p !x !x")
        desk.want(bounds_of("a b", ("b", "a", -1)))
        before = told_by(desk, plan)
        desk.told().clear()
        desk.passes()[0][1]["a"] = 7
        desk.passes().clear()
        desk.possible().clear()
        desk.known("x").clear()
        desk.broken().clear()
        self.assertEqual(told_by(desk, plan), before)

    def test_drawn_desks(self):
        random = Random(1)
        for _ in range(60):
            plan = drawn_plan(random, random.randint(1, 4), random.randint(1, 4), 2)
            desk, slow = Desk(plan), SlowDesk(plan)
            for k in range(30):
                if random.random() < 0.1 or not desk.readers:
                    looks = [random.choice(plan.files) for _ in range(random.randint(1, 4))]
                    desk.enter(f"r{k}", Row(looks))
                    slow.rows[f"r{k}"] = looks
                elif random.random() < 0.6:
                    reader = random.choice(desk.readers)
                    slow.events.append(("look", reader))
                    self.assertEqual(desk.look(reader), desk[desk.told()[-1][2]])
                elif desk.possible():
                    step = random.choice(desk.possible())
                    slow.events.append(("do", step))
                    self.assertEqual(desk.do(step), slow.done(slow.events)[step])
                if random.random() < 0.1:
                    names = random.sample(plan.files, random.randint(0, len(plan.files)))
                    slow.bounds = Bounds(names)
                    for a in names:
                        for b in names:
                            if a != b and random.random() < 0.5:
                                slow.bounds[a, b] = random.randint(-1, 1)
                    random.choice([want, assign])(desk, slow.bounds)
            self.assertEqual(told_by(desk, plan), slow.all_told())
            self.check_promises(desk, plan, slow)

    def check_promises(self, desk, plan, slow):
        """What the document says about passes and what is known."""
        for reader, x in desk.passes():
            if x is not None:
                self.assertIn(x, taken(plan, Row(slow.rows[reader])))
        numbers = {reader: place for place, reader in enumerate(desk.readers)}
        items = [item if item[0] == "do" else ("look", numbers[item[1]], item[2]) for item in desk.told()]
        looks = watched(plan, items)
        for reader in desk.readers:
            log = [(file, edition) for other, file, edition in looks if other == numbers[reader]]
            self.assertEqual(desk.known(reader), sure(plan, [log]))
            self.assertTrue(all(least <= desk[file] for file, least in desk.known(reader).items()))

    def test_a_great_desk(self):
        plan = great_plan()
        random = Random(2)
        desk = Desk(plan)
        for k in range(8):
            desk.enter(f"r{k}", Row([f"f{random.randrange(10)}" for _ in range(40)]))
        for _ in range(400):
            desk.do(random.choice(desk.possible()))
            desk.look(random.choice(desk.readers))
        self.assertEqual((len(desk), len(desk.told())), (800, 800))
        self.assertEqual(sum(desk[file] for file in plan.files) > 100, True)


class AddTest(Case):
    def setUp(self):
        self.plan = plan_of([("p", "a"), ("q", "b")], ("p", "q", 0))
        self.desk = desk_of(self.plan, r="ab", s="b")
        do_all(self.desk, "p !r")

    def test_items_are_done_one_after_another(self):
        items = [("do", "q"), ("look", "r"), ("look", "s"), ("do", "p"), ("do", "q"), ("look", "s")]
        kept = list(items)
        add(self.desk, items)
        self.assertEqual(items, kept)
        self.assertEqual(self.desk.told(), [
            ("do", "p"), ("look", "r", "a"), ("do", "q"), ("look", "r", "b"), ("look", "s", "b"), ("do", "p"),
            ("do", "q"), ("look", "s", "b"),
        ])
        self.assertEqual(self.desk.passes(), [("r", {"a": 1, "b": 1}), ("s", {"b": 1}), ("s", {"b": 2})])
        items.clear()
        self.assertEqual(len(self.desk), 8)

    def test_no_items(self):
        before = told_by(self.desk, self.plan)
        add(self.desk, [])
        self.assertEqual(told_by(self.desk, self.plan), before)

    def test_items_that_are_wrong_at_each_place(self):
        good = [("do", "q"), ("look", "r"), ("look", "s"), ("do", "p")]
        before = told_by(self.desk, self.plan)
        for place in range(5):
            for error, told, item in self.wrong(place):
                items = good[:place] + [item] + good[place:]
                self.refused(error, told, add, self.desk, items)
                self.refused(error, told, tried, self.desk, items)
                self.assertEqual(told_by(self.desk, self.plan), before)
                # The first one that is wrong counts.
                self.refused(error, told, add, self.desk, items + [("do", None), ("do", "x"), ("look", "x")])
        self.assertEqual(told_by(self.desk, self.plan), before)
        add(self.desk, good)
        self.assertEqual(len(self.desk), 6)

    def wrong(self, place):
        """Wrong items for this place among the good ones."""
        lacking = ("do", "q") if place in (1, 2, 3) else None
        found = [(NoStep, "x", ("do", "x")), (NoStep, "r", ("do", "r")), (NoReader, "p", ("look", "p"))]
        if lacking is not None:
            found.append((NotYet, (place, "p"), lacking))
        for item in [
            None, 0, "do", [], {}, (), ("do",), ("look",), ["do", "p"], ["look", "r"], ("do", "p", 0), ("do", 0),
            ("look", "r", "a"), ("look", 0, "a"), ("look", 0), ("look", None), ("do", True), ("do", ["p"]), ("p", "do"),
            ("see", "r"), (b"do", "p"), (Hostile(), "p"), ("do", Hostile()), ("look", Hostile()), Hostile(),
            ("look", b"r"),
        ]:
            found.append((BadItem, place, item))
        return found

    def test_the_place_of_not_yet_is_that_in_the_list(self):
        do_all(self.desk, "q !r !r !r")
        self.refused(NotYet, (0, "p"), add, self.desk, [("do", "q")])
        self.refused(NotYet, (3, "p"), add, self.desk, [("do", "p"), ("look", "s"), ("do", "q"), ("do", "q")])
        self.refused(NotYet, (6, "p"), self.desk.do, "q")

    def test_many_items(self):
        add(self.desk, [("do", "p"), ("do", "q"), ("look", "r"), ("look", "s")] * 100)
        self.assertEqual((len(self.desk), self.desk["b"], len(self.desk.passes())), (402, 100, 150))


class WantedTest(Case):
    def setUp(self):
        self.plan = plan_of([("p", "a"), ("q", "b"), ("r", "c")])
        self.desk = desk_of(self.plan, r="ab", s="a", t="cab")

    def test_wanted_bounds(self):
        self.assertIsNone(self.desk.wanted)
        self.assertEqual(self.desk.broken(), [])
        for function in (want, assign):
            function(self.desk, bounds_of("c a", ("a", "c", 2)))
            self.assertEqual(entries(self.desk.wanted), (("c", "a"), {("a", "c"): 2}))
            self.assertIsInstance(self.desk.wanted, Bounds)
            function(self.desk, bounds_of(""))
            self.assertEqual(entries(self.desk.wanted), ((), {}))
            function(self.desk, None)
            self.assertIsNone(self.desk.wanted)

    def test_copies_both_ways(self):
        for function in (want, assign):
            bounds = bounds_of("a b", ("a", "b", 2))
            function(self.desk, bounds)
            bounds["a", "b"] = 9
            bounds &= bounds_of("c")
            given = self.desk.wanted
            given["b", "a"] = 0
            given &= bounds_of("c")
            self.assertEqual(entries(self.desk.wanted), (("a", "b"), {("a", "b"): 2}))

    def test_strangers(self):
        self.desk.want(bounds_of("a"))
        before = told_by(self.desk, self.plan)
        for function in (want, assign):
            self.refused(NoFile, "x", function, self.desk, bounds_of("b x a y"))
            self.refused(NoFile, "p", function, self.desk, bounds_of("p"))
        self.assertEqual(told_by(self.desk, self.plan), before)

    def test_broken_passes(self):
        do_all(self.desk, "!r !r p !s !r !r !t p !t !t q p !r !t !t q !t !r !s")
        self.assertEqual(self.desk.passes(), [
            ("r", {"a": 0, "b": 0}), ("s", {"a": 1}), ("r", {"a": 1, "b": 0}), ("t", {"c": 0, "a": 2, "b": 0}),
            ("t", {"c": 0, "a": 3, "b": 2}), ("r", {"a": 3, "b": 2}), ("s", {"a": 3}),
        ])
        for text, pairs, expected in [
            ("a b", [("a", "b", 0)], [2, 3, 4, 5]),
            ("a b", [("a", "b", 1)], [3]),
            ("b a", [("a", "b", 2)], []),
            ("a b", [("b", "a", -1)], [0]),
            ("b a", [("b", "a", -2)], [0, 2, 4, 5]),
            ("c a", [("a", "c", 2)], [4]),
            ("a c b", [("a", "b", 1), ("b", "c", 0)], [3, 4]),
            ("a b c", [], []),
            ("", [], []),
            ("b", [], []),
            ("b c", [("b", "c", -1)], [3, 4]),
        ]:
            self.desk.want(bounds_of(text, *pairs))
            self.assertEqual(self.desk.broken(), expected, (text, pairs))
        self.desk.want(None)
        self.assertEqual(self.desk.broken(), [])

    def test_passes_that_took_nothing(self):
        desk = desk_of(plan_of([("p", "a"), ("q", "b")]), r="aba")
        desk.want(bounds_of("a b", ("a", "b", -1)))
        do_all(desk, "!r !r p !r !r !r !r")
        self.assertEqual(desk.passes(), [("r", None), ("r", {"a": 1, "b": 0})])
        self.assertEqual(desk.broken(), [1])

    def test_bounds_without_a_set(self):
        do_all(self.desk, "!s !r !r")
        self.desk.want(bounds_of("a b", ("a", "b", -1), ("b", "a", 0)))
        self.assertEqual(self.desk.broken(), [1])
        self.assertEqual(Desk(Plan()).broken(), [])
