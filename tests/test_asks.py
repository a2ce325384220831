from itertools import product

from givenout.asks import answer, is_ask, is_formula
from givenout.errors import BadAsk, BadRun
from givenout.houses import House
from givenout.stands import led
from tests.helpers import VALUES, Case

NIGHT = ("night",)

HOUSE = House("""people ann bob cy
cell c 4 1
cell d 2 0
deed x
  by ann cy
  pick 3
  add c 1
deed y
  if c != 3
  add d 1
day 2""")

SOMEBODY = ("ann", "bob", "cy", None)

LEAVES = (
    [("now", "c", worth) for worth in range(4)] + [("now", "d", worth) for worth in range(2)]
    + [(word, "x", who, it) for word in ("done", "today") for who in SOMEBODY for it in (0, 1, 2, None)]
    + [(word, "y", who, it) for word in ("done", "today") for who in SOMEBODY for it in (0, None)]
    + [("last", deed, who) for deed in "xy" for who in ("ann", "bob", "cy")]
    + [("often", deed, n) for deed in "xy" for n in (2, 3)])

QUESTIONS = (
    [("worth", "c"), ("worth", "d"), ("who", "x"), ("who", "y")]
    + [("times", deed, most) for deed in "xy" for most in (1, 2, 3)])

LEAF = ("often", "x", 2)
PAIR = ("or", LEAF, ("now", "d", 1))

FORMULAS = (
    ("not", LEAF), ("and", LEAF, LEAF), ("or", LEAF, ("now", "c", 1)), ("not", ("not", ("not", LEAF))),
    ("and", PAIR, PAIR), ("or", ("and", PAIR, LEAF), LEAF), ("and", LEAF, ("not", ("and", LEAF, LEAF))),
    ("not", ("and", PAIR, PAIR)), ("or", LEAF, ("and", LEAF, ("not", LEAF))), ("and", ("not", ("not", LEAF)), PAIR))

TOO_DEEP = (
    ("not", ("not", ("not", ("not", LEAF)))), ("and", LEAF, ("not", ("not", ("not", LEAF)))),
    ("or", ("and", ("or", ("and", LEAF, LEAF), LEAF), LEAF), LEAF), ("not", ("not", ("not", ("or", LEAF, LEAF)))))

TOO_MANY_LEAVES = (
    ("and", PAIR, ("and", LEAF, PAIR)), ("or", ("and", PAIR, PAIR), LEAF), ("and", ("or", PAIR, LEAF), PAIR),
    ("or", ("or", PAIR, PAIR), ("or", PAIR, PAIR)), ("not", ("and", PAIR, ("or", LEAF, PAIR))))

NONE = (
    ("now", "c", 4), ("now", "d", 2), ("now", "c", -1), ("now", "c", True), ("now", "c", None), ("now", "c", "1"),
    ("now", "e", 0), ("now", "x", 0), ("now", None, 0), ("now", "c"), ("now", "c", 0, 0), ("now", ["c"], 0), ("now",),
    ("done", "x", "ann", 3), ("done", "y", "ann", 1), ("done", "x", "ann", -1), ("done", "x", "ann", False),
    ("done", "x", "dot", 0), ("done", "x", "", 0), ("done", "z", "ann", 0), ("done", "c", "ann", 0),
    ("done", None, "ann", 0),
    ("done", "x", "ann"), ("done", "x", "ann", 0, 0), ("done", "x", ["ann"], 0), ("done", "x", "ann", (0,)),
    ("done", "x", "ann", "0"), ("done", "x", "ann", [0]), ("done", ["x"], "ann", 0), ("done", "x", 0, "ann"), ("done",),
    ("today", "x", "ann", 3), ("today", "y", None, 1), ("today", "z", None, None), ("today", "x", "dot", None),
    ("today", "x", None), ("today", "x", None, True), ("today", "x", False, None),
    ("last", "x", None), ("last", "x", "dot"), ("last", "x", ""), ("last", "z", "ann"), ("last", "x"),
    ("last", None, "ann"),
    ("last", "x", "ann", 0), ("last", "x", ["ann"]), ("last", "x", 0), ("last", "c", "ann"),
    ("often", "x", 1), ("often", "x", 4), ("often", "x", 0), ("often", "x", True), ("often", "x", None),
    ("often", "x", "2"),
    ("often", "z", 2), ("often", "x"), ("often", "x", 2, 2), ("often", ["x"], 2),
    ("not",), ("not", LEAF, LEAF), ("not", None), ("not", ("worth", "c")), ("not", ("who", "x")),
    ("not", ("times", "x", 1)),
    ("not", ["often", "x", 2]), ("not", True), ("not", ()),
    ("and",), ("and", LEAF), ("and", LEAF, LEAF, LEAF), ("and", LEAF, None), ("and", None, LEAF),
    ("and", LEAF, ("worth", "c")),
    ("and", ("who", "x"), LEAF), ("and", LEAF, ("now", "c", 4)), ("and", LEAF, list(LEAF)), ("and", [LEAF, LEAF]),
    ("or",), ("or", LEAF), ("or", LEAF, LEAF, LEAF), ("or", ("times", "x", 1), LEAF), ("or", ("last", "x", None), LEAF),
    ("worth",), ("worth", "e"), ("worth", "x"), ("worth", "c", 1), ("worth", None), ("worth", ["c"]), ("worth", 0),
    ("who",), ("who", "z"), ("who", "ann"), ("who", "x", "ann"), ("who", None), ("who", ["x"]),
    ("times",), ("times", "x"), ("times", "x", 0), ("times", "x", 4), ("times", "x", True), ("times", "x", None),
    ("times", "z", 1), ("times", "x", 1, 1), ("times", "x", "1"), ("times", ["x"], 1),
    ("xor", LEAF, LEAF), ("NOT", LEAF), ("", LEAF), (None, LEAF), (("not",), LEAF), (["now"], "c", 0), ("never", "x"),
    list(LEAF), ["worth", "c"], (LEAF,), (("worth", "c"),), "worth c", {"worth": "c"})


def do(deed, who, it=0):
    return ("do", deed, who, it)


class IsAskTest(Case):

    def look(self, value, ask, formula):
        with self.subTest(value=value):
            self.same(is_ask(HOUSE, value), ask)
            self.same(is_formula(HOUSE, value), formula)
            self.same(is_ask(value=value, house=HOUSE), ask)
            self.same(is_formula(value=value, house=HOUSE), formula)

    def test_leaves(self):
        for value in LEAVES:
            self.look(value, True, True)

    def test_formulas(self):
        for value in FORMULAS:
            self.look(value, True, True)
        for leaf in LEAVES:
            self.look(("not", leaf), True, True)
            self.look(("and", leaf, LEAF), True, True)
            self.look(("or", LEAF, leaf), True, True)

    def test_asks_that_are_no_formulas(self):
        for value in QUESTIONS:
            self.look(value, True, False)

    def test_formulas_that_are_too_deep(self):
        for value in TOO_DEEP:
            self.look(value, False, False)

    def test_formulas_with_too_many_leaves(self):
        for value in TOO_MANY_LEAVES:
            self.look(value, False, False)

    def test_what_is_no_ask(self):
        for value in NONE + VALUES:
            self.look(value, False, False)
            self.look(("not", value), False, False)
            self.look(("or", LEAF, value), False, False)

    def test_a_formula_that_is_nested_very_deep(self):
        value = LEAF
        for _ in range(38):
            value = ("not", value)
        self.look(value, False, False)


def told(run, ask):
    """The answer, worked out from the whole run."""
    word = ask[0]
    if word == "not":
        return not told(run, ask[1])
    if word in ("and", "or"):
        both = [told(run, ask[1]), told(run, ask[2])]
        return all(both) if word == "and" else any(both)
    if word in ("now", "worth"):
        worth = led(HOUSE, run)[0][0]["cd".index(ask[1])]
        return worth if word == "worth" else worth == ask[2]
    done = [move for move in run if move[0] == "do" and move[1] == ask[1]]
    if word == "today":
        nights = [at for at, move in enumerate(run) if move == NIGHT]
        done = [move for move in run[max(nights, default=-1) + 1:] if move[1] == ask[1]]
    if word in ("done", "today"):
        return any([ask[2] in (None, who) and ask[3] in (None, it) for _, _, who, it in done])
    if word == "last":
        return done != [] and done[-1][2] == ask[2]
    if word == "who":
        return done[-1][2] if done else ""
    return len(done) >= ask[2] if word == "often" else min(len(done), ask[2])


RUNS = (
    (), (NIGHT,), (do("x", "ann", 1),), (do("x", "ann", 1), NIGHT), (do("y", "bob"), do("y", "cy")),
    (do("x", "cy", 2), do("x", "ann", 0), NIGHT, do("x", "cy", 1), do("x", "ann", 0), NIGHT, NIGHT),
    (do("y", "bob"), do("x", "ann", 2), NIGHT, do("y", "ann"), NIGHT, do("y", "bob")),
    (do("y", "bob"), NIGHT, do("y", "bob"), NIGHT, do("y", "bob"), NIGHT, do("y", "cy"), do("x", "cy", 0)))


class AnswerTest(Case):

    def test_each_row_of_the_table(self):
        run = (do("x", "ann", 1), do("y", "bob"), NIGHT, do("x", "cy", 2))
        for ask, given in (
                (("now", "c", 3), True), (("now", "c", 1), False), (("now", "d", 1), True), (("worth", "c"), 3),
                (("worth", "d"), 1), (("done", "x", "ann", 1), True), (("done", "x", "ann", 2), False),
                (("done", "x", "cy", 1), False), (("done", "x", None, 1), True), (("done", "x", None, 0), False),
                (("done", "x", "ann", None), True), (("done", "x", "bob", None), False),
                (("done", "x", None, None), True),
                (("done", "y", "bob", 0), True), (("done", "y", "ann", None), False), (("today", "x", "ann", 1), False),
                (("today", "x", "cy", 2), True), (("today", "x", None, 2), True), (("today", "x", "cy", None), True),
                (("today", "x", "cy", 1), False), (("today", "y", None, None), False), (("last", "x", "cy"), True),
                (("last", "x", "ann"), False), (("last", "y", "bob"), True), (("often", "x", 2), True),
                (("often", "x", 3), False), (("often", "y", 2), False), (("who", "x"), "cy"), (("who", "y"), "bob"),
                (("times", "x", 1), 1), (("times", "x", 2), 2), (("times", "x", 3), 2), (("times", "y", 3), 1),
                (("not", ("now", "c", 3)), False), (("and", ("now", "c", 3), ("last", "x", "ann")), False),
                (("or", ("now", "c", 3), ("last", "x", "ann")), True)):
            with self.subTest(ask=ask):
                self.same(answer(HOUSE, run, ask), given)
                self.same(answer(ask=ask, run=run, house=HOUSE), given)

    def test_ahead_of_all_moves(self):
        for ask, given in (
                (("now", "c", 1), True), (("worth", "c"), 1), (("done", "x", None, None), False),
                (("today", "x", None, None), False), (("last", "x", "ann"), False), (("often", "x", 2), False),
                (("who", "x"), ""), (("times", "x", 1), 0), (("not", ("last", "x", "ann")), True)):
            self.same(answer(HOUSE, (), ask), given)

    def test_what_is_told_of_the_whole_run(self):
        for run in RUNS:
            for ask in list(LEAVES) + QUESTIONS + list(FORMULAS):
                with self.subTest(run=run, ask=ask):
                    self.same(answer(HOUSE, run, ask), told(run, ask))

    def test_formulas_of_all_sorts_of_leaves(self):
        some = (
            ("now", "c", 2), ("done", "y", "bob", None), ("today", "y", None, 0), ("last", "y", "cy"),
            ("often", "y", 3))
        for one, two, three, four in product(some, repeat=4):
            ask = ("or", ("and", one, ("not", two)), ("and", three, four))
            for run in RUNS[4:]:
                self.same(answer(HOUSE, run, ask), told(run, ask))

    def test_what_is_no_run(self):
        for value in VALUES:
            if not isinstance(value, tuple):
                self.refuses(BadRun, 0, answer, HOUSE, value, ("worth", "c"))
            if value != NIGHT:
                self.refuses(BadRun, 1, answer, HOUSE, (value,), ("worth", "c"))
        self.refuses(BadRun, 3, answer, HOUSE, (do("y", "ann"), do("y", "ann"), do("y", "ann")), ("worth", "c"))

    def test_a_bad_run_is_told_ahead_of_a_bad_ask(self):
        self.refuses(BadRun, 0, answer, HOUSE, [], None)
        self.refuses(BadRun, 1, answer, HOUSE, (do("x", "bob"),), ["worth", "c"])

    def test_what_is_no_ask(self):
        for value in NONE + VALUES + TOO_DEEP + TOO_MANY_LEAVES:
            with self.subTest(value=value):
                self.refuses(BadAsk, value, answer, HOUSE, (NIGHT,), value)
                self.refuses(BadAsk, value, answer, ask=value, run=(), house=HOUSE)
