from givenout.asks import answer
from givenout.cases import cases_behind, first_case
from givenout.errors import BadAsks, BadCase, BadPool
from givenout.giving import first_memory, gives, view
from givenout.houses import House
from givenout.notes import answer_by
from givenout.rules import Rules
from givenout.stands import after, first_stand, moves
from tests.helpers import SMALL, VALUES, Case

NIGHT = ("night",)

HOUSE = House("""people ann bob cy
cell c 3 1
kind k
  who w
  worth v 3
kind l
deed x
  by ann cy
  pick 2
  set c it
  row k who c
deed y
  if c != 2
  add c 1
  row l
day 2""")

RULES = Rules(HOUSE, "reader a\n  is ann\n  kind l\nreader b\n  daily\n  kind k\n    number w\n    nightly\n"
                     "reader c\n  nights\n  kind k\n    counted 2")

DONE, TODAY = ("done", "x", "ann", None), ("today", "x", None, 1)
LAST, OFTEN = ("last", "y", "cy"), ("often", "y", 2)
NOW, WORTH, WHO, TIMES = ("now", "c", 0), ("worth", "c"), ("who", "x"), ("times", "x", 3)
ALL = ("and", ("or", DONE, ("not", TODAY)), ("or", LAST, OFTEN))
FIRST = ((), (), (0, 0))


def do(deed, who, it=0):
    return ("do", deed, who, it)


def case_of(pool, asks, run):
    """The case behind the run, step by step."""
    case = first_case(RULES, pool, asks)
    for move in run:
        steps = {told: behind for told, _, behind in cases_behind(RULES, pool, asks, case)}
        case = steps[move]
    return case


RUN = (do("x", "ann", 1), do("y", "cy"), NIGHT, do("x", "cy", 0), NIGHT, do("y", "bob"))


class FirstCaseTest(Case):

    def test_none_to_three_asks(self):
        for asks, notes in (
                ((), ()), ((DONE,), ((False,),)), ((WORTH,), ((),)), ((NOW, WHO), ((), ("",))),
                ((ALL, TIMES, OFTEN), ((False, False, "", 0), (0,), (0,))), ((DONE, DONE, DONE), ((False,),) * 3),
                ((("not", ("and", LAST, NOW)), ("or", NOW, OFTEN)), (("",), (0,)))):
            self.same(first_case(RULES, ("b",), asks), (((1,), 0), (FIRST,), notes))

    def test_pools(self):
        for pool in (("a",), ("c",), ("a", "b"), ("b", "c"), ("a", "b", "c")):
            self.same(first_case(RULES, pool, ()), (((1,), 0), tuple([FIRST] * len(pool)), ()))

    def test_by_the_names_of_the_document(self):
        asks = (DONE, WHO)
        case = first_case(RULES, ("a", "b"), asks)
        self.same(first_case(asks=asks, pool=("a", "b"), rules=RULES), case)
        self.same(cases_behind(case=case, asks=asks, pool=("a", "b"), rules=RULES),
                  cases_behind(RULES, ("a", "b"), asks, case))

    def test_the_small_house(self):
        rules = Rules(House(SMALL), "reader r\n  kind k\n    number w")
        self.same(first_case(rules, ("r",), ()), (((0,), 0), (((), (), (0,)),), ()))


class CasesBehindTest(Case):

    def test_the_first_steps(self):
        asks = (DONE, WORTH, TIMES)
        steps = cases_behind(RULES, ("a", "b"), asks, first_case(RULES, ("a", "b"), asks))

        def x(who, it, mine):
            due = (("k", ("#0", it)),)
            return (do("x", who, it), ((("did", "x", it),) if mine else (), ()),
                    (((it,), 1), (FIRST, ((who,), due, (0, 0))), ((mine,), (), (1,))))

        def y(who, mine):
            items = ((("did", "y", 0),) if mine else ()) + (("l", ()),)
            return (do("y", who), (items, ()), (((2,), 1), (FIRST, FIRST), ((False,), (), (0,))))

        self.same(steps, (
            x("ann", 0, True), x("ann", 1, True), x("cy", 0, False), x("cy", 1, False),
            y("ann", True), y("bob", False), y("cy", False),
            (NIGHT, ((), ()), (((1,), 0), (FIRST, FIRST), ((False,), (), (0,))))))

    def test_notes_along_a_run(self):
        notes = (
            (False, False, "", 0), (True, True, "", 0), (True, True, "cy", 1), (True, False, "cy", 1),
            (True, False, "cy", 1),
            (True, False, "cy", 1), (True, False, "bob", 2))
        who, times = ("", "ann", "ann", "ann", "cy", "cy", "cy"), (0, 1, 1, 1, 2, 2, 2)
        for many in range(len(RUN) + 1):
            self.same(case_of(("c",), (ALL, WHO, TIMES), RUN[:many])[2], (notes[many], (who[many],), (times[many],)))

    def test_notes_of_words_of_their_own(self):
        y = do("y", "cy")
        run = (y, NIGHT, do("x", "cy", 0), y, NIGHT, do("x", "ann", 1), do("x", "ann", 1))
        for asks, notes in (
                ((("today", "x", "ann", None), ("today", "x", "ann", 0), ("done", "x", None, 0)),
                 ((True,), (False,), (True,))),
                ((("often", "x", 2), ("often", "x", 3), ("times", "x", 1)), ((2,), (3,), (1,))),
                ((("last", "x", "cy"), ("last", "y", "ann"), ("who", "y")), (("ann",), ("cy",), ("cy",))),
                ((("done", "y", "ann", None), ("done", "y", None, None), ("today", "y", None, None)),
                 ((False,), (True,), (False,))),
                ((("or", ("and", NOW, OFTEN), ("not", LAST)), NOW, WORTH), ((2, "cy"), (), ()))):
            self.same(case_of(("a",), asks, run)[2], notes)

    def test_alike_asks_have_alike_notes(self):
        self.same(case_of(("a",), (TIMES, TIMES, TIMES), RUN)[2], ((2,), (2,), (2,)))
        self.same(case_of(("a",), (("and", DONE, DONE),), RUN)[2], ((True, True),))

    def test_notes_answer_the_asks(self):
        asks = (ALL, WHO, ("or", NOW, TODAY))
        for many in range(len(RUN) + 1):
            case = case_of(("b",), asks, RUN[:many])
            for ask, notes in zip(asks, case[2]):
                self.same(answer_by(HOUSE, ask, case[0][0], notes), answer(HOUSE, RUN[:many], ask))

    def test_each_step_is_made_of_its_parts(self):
        for pool in (("a",), ("b",), ("c",), ("a", "c"), ("a", "b", "c")):
            for many in range(len(RUN) + 1):
                case = case_of(pool, (), RUN[:many])
                steps = cases_behind(RULES, pool, (), case)
                self.same(tuple([move for move, _, _ in steps]), moves(HOUSE, case[0]))
                for move, shown, behind in steps:
                    stand, rows = after(HOUSE, case[0], move)
                    each = [gives(RULES, reader, memory, move, rows) for reader, memory in zip(pool, case[1])]
                    self.same(shown, tuple([items for items, _ in each]))
                    self.same(behind, (stand, tuple([memory for _, memory in each]), ()))

    def test_what_is_shown_makes_the_view(self):
        for pool in (("a",), ("b", "c"), ("a", "b", "c")):
            case, parts = first_case(RULES, pool, (ALL,)), []
            for move in RUN:
                for told, shown, behind in cases_behind(RULES, pool, (ALL,), case):
                    if told == move:
                        parts.append(shown)
                        case = behind
                        break
            unseen = tuple([() for _ in pool])
            self.same(view(RULES, pool, RUN), tuple([part for part in parts if part != unseen]))

    def test_unseen_moves_show_nothing_to_each(self):
        for pool in (("b",), ("a", "b")):
            for move, shown, _ in cases_behind(RULES, pool, (), first_case(RULES, pool, ())):
                if move in (do("x", "cy", 0), NIGHT):
                    self.same(shown, tuple([() for _ in pool]))

    def test_only_the_night_at_the_end_of_a_day(self):
        case = (((1,), 2), (FIRST,), ())
        self.same(cases_behind(RULES, ("b",), (), case), ((NIGHT, ((),), (((1,), 0), (FIRST,), ())),))
        case = (((1,), 2), ((("cy",), (("k", ("#0", 1)),), (0, 0)),), ())
        self.same(cases_behind(RULES, ("b",), (), case), ((NIGHT, ((("k", ("#0", 1)),),), (((1,), 0), (FIRST,), ())),))

    def test_cases_that_no_run_leads_to(self):
        memory = (("bob", "ann"), (("k", ("-", -1)), ("l", ())), (3, 3))
        case = (((2,), 0), (memory,), (("bob",), (3,), (True,)))
        steps = cases_behind(RULES, ("c",), (WHO, TIMES, DONE), case)
        self.same(steps[0], (do("x", "ann", 0), ((),), (((0,), 1), (memory,), (("ann",), (3,), (True,)))))
        memory = (("bob", "ann"), (), (0, 0))
        self.same(steps[-1], (
            NIGHT, ((("count", "k", 2), NIGHT),), (((2,), 0), (memory,), (("bob",), (3,), (True,)))))


class RefusedTest(Case):

    POOL, ASKS = ("a", "b"), (ALL, WHO, TIMES)
    CASE = (((1,), 0), (FIRST, FIRST), ((False, False, "", 0), ("",), (0,)))

    def test_what_is_no_pool(self):
        for value in VALUES + (["a"], ("b", "a"), ("a", "a"), ("d",), ("a", "b", "c", "d"), ("a", None), ("a", True)):
            if value != ("a",):
                with self.subTest(value=value):
                    self.refuses(BadPool, value, first_case, RULES, value, ())
                    self.refuses(BadPool, value, first_case, RULES, value, None)
                    self.refuses(BadPool, value, cases_behind, RULES, value, None, None)
                    self.refuses(BadPool, value, cases_behind, case=None, asks=(), pool=value, rules=RULES)

    def test_what_are_no_asks(self):
        bad = VALUES + (
            [DONE], DONE, (DONE,) * 4, (DONE, None), (None, DONE), (list(DONE),), (("now", "c", 3),), (("who", "z"),),
            ("worth", "c"), {DONE: 1}, (("not", WHO),), (("now", "c", True),), ((DONE,),))
        for value in bad:
            if value != ():
                with self.subTest(value=value):
                    self.refuses(BadAsks, value, first_case, RULES, ("a",), value)
                    self.refuses(BadAsks, value, cases_behind, RULES, ("a",), value, None)
                    self.refuses(BadAsks, value, cases_behind, case=None, asks=value, pool=("a",), rules=RULES)

    def bad(self, value):
        with self.subTest(value=value):
            self.refuses(BadCase, value, cases_behind, RULES, self.POOL, self.ASKS, value)
            self.refuses(BadCase, value, cases_behind, case=value, asks=self.ASKS, pool=self.POOL, rules=RULES)

    def test_what_is_no_case(self):
        stand, memories, notes = self.CASE
        cases_behind(RULES, self.POOL, self.ASKS, self.CASE)
        bad = VALUES + (
            list(self.CASE), self.CASE[:2], self.CASE + ((),), (self.CASE,), (memories, stand, notes))
        for value in bad:
            self.bad(value)
        for value in VALUES:
            self.bad((value, memories, notes))
            self.bad((stand, value, notes))
            self.bad((stand, memories, value))

    def test_stands_otherwise(self):
        for stand in (((3,), 0), ((1,), 3), ((1,), -1), ((1,), True), ((True,), 0), ((1, 1), 0), ([1], 0),
                      [(1,), 0], ((1,),)):
            self.bad((stand,) + self.CASE[1:])

    def test_memories_otherwise(self):
        for memory in (((), (), (0,)), ((), (), (0, 0, 0)), ((), (), (0, 4)), ((), (), (0, False)),
                       (("dot",), (), (0, 0)), (("ann", "ann"), (), (0, 0)),
                       ((), (("l", ()), ("k", ("ann", 0))), (0, 0)), ([], (), (0, 0)),
                       ((), (("k", ("ann", 3)),), (0, 0)), ((), (("k", ("#3", 0)),), (0, 0)), [(), (), (0, 0)]):
            self.bad((self.CASE[0], (memory, FIRST), self.CASE[2]))
            self.bad((self.CASE[0], (FIRST, memory), self.CASE[2]))
        for memories in ((FIRST,), (FIRST, FIRST, FIRST), (), [FIRST, FIRST]):
            self.bad((self.CASE[0], memories, self.CASE[2]))

    def test_notes_otherwise(self):
        good = self.CASE[2]
        for place, bad in (
                (0, (0, False, "", 0)), (0, (False, 1, "", 0)), (0, (False, None, "", 0)),
                (0, (False, False, "dot", 0)),
                (0, (False, False, None, 0)), (0, (False, False, False, 0)), (0, (False, False, "", 3)),
                (0, (False, False, "", -1)), (0, (False, False, "", False)), (0, (False, False, "", "0")),
                (0, (False, False, "")), (0, (False, False, "", 0, 0)), (0, [False, False, "", 0]), (0, ()),
                (0, (False, False, ["ann"], 0)), (0, ("", False, False, 0)), (1, ("dot",)), (1, (None,)), (1, ()),
                (1, (0,)), (1, ("", "")), (1, [""]), (1, ""), (1, ("#0",)), (2, (4,)), (2, (-1,)), (2, (True,)),
                (2, (None,)),
                (2, ("",)), (2, ()), (2, 0), (2, (0, 0)), (2, [0])):
            self.bad(self.CASE[:2] + (good[:place] + (bad,) + good[place + 1:],))
        for notes in (good[:2], good + ((0,),), list(good), good[::-1], ()):
            self.bad(self.CASE[:2] + (notes,))

    def test_notes_up_to_their_limits(self):
        for notes in (
                ((True, True, "bob", 2), ("bob",), (3,)), ((True, False, "cy", 1), ("cy",), (2,)),
                ((False, True, "ann", 0), ("ann",), (1,))):
            cases_behind(RULES, self.POOL, self.ASKS, self.CASE[:2] + (notes,))

    def test_notes_of_asks_without_entries(self):
        asks = (WORTH, NOW, ("not", NOW))
        cases_behind(RULES, ("a",), asks, (((1,), 0), (FIRST,), ((), (), ())))
        for notes in (((), ()), ((), (), (False,)), ((), (), 0), (((),), (), ())):
            value = (((1,), 0), (FIRST,), notes)
            self.refuses(BadCase, value, cases_behind, RULES, ("a",), asks, value)

    def test_the_first_of_several_errors(self):
        pool, asks, case = ["a"], [DONE], None
        self.refuses(BadPool, pool, cases_behind, RULES, pool, asks, case)
        self.refuses(BadPool, pool, cases_behind, RULES, pool, (DONE,), case)
        self.refuses(BadPool, pool, first_case, RULES, pool, asks)
        self.refuses(BadAsks, asks, cases_behind, RULES, ("a",), asks, case)

    def test_a_case_of_another_pool_or_of_other_asks(self):
        case = first_case(RULES, ("a", "b"), (WHO,))
        self.refuses(BadCase, case, cases_behind, RULES, ("a",), (WHO,), case)
        self.refuses(BadCase, case, cases_behind, RULES, ("a", "b"), (TIMES,), case)
        self.refuses(BadCase, case, cases_behind, RULES, ("a", "b"), (), case)
        self.assertEqual(case[0], first_stand(HOUSE))
        self.assertEqual(case[1][0], first_memory(HOUSE))
