from unittest import mock

from givenout import lores as lores_module
from givenout.asks import answer
from givenout.cases import cases_behind, first_case
from givenout.errors import BadAsk, BadAsks, BadPool, BadRun, BadView, TooMany
from givenout.giving import view
from givenout.houses import House
from givenout.knowing import answers, course, lore, shows_answers
from givenout.rules import Rules
from tests.helpers import BIG, BIG_ASK, BIG_NEVER, SMALL, VALUES, Case
from tests.made import some
from tests.naive import Naive, runs_up_to

NIGHT = ("night",)
XA, XB = ("do", "x", "a", 0), ("do", "x", "b", 0)
HOUSE = House(SMALL)
NUMBER = Rules(HOUSE, "reader r\n  kind k\n    number w")
DAILY = Rules(HOUSE, "reader r\n  daily\n  kind k\n    number w")
TWO = Rules(HOUSE, "reader q\n  kind k\n    only w = a\nreader r\n  is b\n  kind k\n    number w")
BY_A, WHO, TIMES = ("done", "x", "a", None), ("who", "x"), ("times", "x", 2)
NONE = ((), (), (0,))


def row(word):
    return ("k", (word,))


def part(*words):
    """A part for one reader, rows of k."""
    return (tuple([row(word) for word in words]),)


ZERO, ONE = part("#0"), part("#1")


def case(today, memory, *notes):
    """A case of one reader."""
    return (((0,), today), (memory,), notes)


def numbered(*people):
    return (people, (), (0,))


class LoreTest(Case):

    def test_ahead_of_all_parts(self):
        self.same(lore(NUMBER, ("r",), (), ()), (case(0, NONE),))
        self.same(lore(NUMBER, ("r",), (BY_A, WHO, TIMES), ()), (case(0, NONE, (False,), ("",), (0,)),))
        # All is unseen but what a does.
        rules = Rules(HOUSE, "reader r\n  is a")
        self.same(lore(rules, ("r",), (WHO,), ()), (
            case(0, NONE, ("",)), case(0, NONE, ("b",)), case(1, NONE, ("b",))))

    def test_behind_each_part_and_with_unseen_moves_behind_the_last_one(self):
        self.same(lore(NUMBER, ("r",), (BY_A,), (ZERO,)), (
            case(0, numbered("a"), (True,)), case(0, numbered("b"), (False,)),
            case(1, numbered("a"), (True,)), case(1, numbered("b"), (False,))))
        self.same(lore(NUMBER, ("r",), (BY_A,), (ZERO, ONE)), (
            case(0, numbered("a", "b"), (True,)), case(0, numbered("b", "a"), (True,)),
            case(1, numbered("a", "b"), (True,)), case(1, numbered("b", "a"), (True,))))
        self.same(lore(DAILY, ("r",), (BY_A,), (ZERO,)), (
            case(0, NONE, (False,)), case(0, NONE, (True,)),
            case(1, numbered("a"), (True,)), case(1, numbered("b"), (False,))))
        self.same(lore(DAILY, ("r",), (), (ZERO, ZERO)), (
            case(0, NONE), case(1, numbered("a")), case(1, numbered("b"))))

    def test_none_to_three_asks(self):
        for asks, notes in (((), ()), ((WHO,), (("b",),)), ((WHO, BY_A), (("b",), (False,))),
                            ((BY_A, BY_A, ("now", "c", 0)), ((False,), (False,), ()))):
            self.assertIn(case(1, numbered("b"), *notes), lore(NUMBER, ("r",), asks, (ZERO,)))

    def test_pools_of_two(self):
        seen = ((row("a"),), (row("#0"),))
        told = lore(TWO, ("q", "r"), (WHO,), (seen,))
        self.same(told, ((((0,), 0), (NONE, numbered("a")), (("a",),)), (((0,), 1), (NONE, numbered("a")), (("a",),))))
        other = ((), (("did", "x", 0), row("#0")))
        told = lore(TWO, ("q", "r"), (), (other, other))
        self.same(told, ((((0,), 0), (NONE, numbered("b")), ()), (((0,), 1), (NONE, numbered("b")), ())))

    def test_the_cases_of_all_runs_with_the_view(self):
        for made in some(120):
            pool, asks = made.pool(), tuple(made.ask() for _ in range(made.one(0, 1, 2, 3)))
            naive = Naive(made.rules, pool, asks)
            for run in (made.run(5), made.run(9)):
                told = view(made.rules, pool, run)
                self.same(lore(made.rules, pool, asks, told), tuple(sorted(naive.lores(told)[-1])))

    def test_what_holds_behind_each_run(self):
        for made in some(40):
            pool, ask = made.pool(), made.ask()
            for run in runs_up_to(made.house, 3)[::9]:
                at = first_case(made.rules, pool, (ask,))
                for done in run:
                    at, = [behind for move, _, behind in cases_behind(made.rules, pool, (ask,), at) if move == done]
                self.assertIn(at, lore(made.rules, pool, (ask,), view(made.rules, pool, run)))

    def test_what_is_the_view_of_no_run(self):
        for value in [value for value in VALUES if value != ()] + [
                (ONE,), (ZERO, part("#2")), (part("a"),), (part("-"),), (part("#0", "#0"),), (((),),), (ZERO, ((),)),
                ZERO,
                [ZERO], (list(ZERO),), ((list(ZERO[0]),),), ((([row("#0")]),),), (((("k", ["#0"]),),),),
                ((row("#0"),),),
                (((row("#0"),), ()),), (ZERO + ZERO,), (part(0),), (part(True),), (((("night",),),),),
                ((((("did", "x", 0)),),),), (ZERO, None), ({},)]:
            with self.subTest(value=value):
                self.refuses(BadView, value, lore, NUMBER, ("r",), (), value)
                self.refuses(BadView, value, answers, NUMBER, ("r",), WHO, value)
                self.refuses(BadView, value, shows_answers, NUMBER, ("r",), WHO, value, None)

    def test_true_is_not_1_in_a_view(self):
        rules = Rules(House("people a\ncell c 2 0\nkind k\n  worth v 2\ndeed x\n  pick 2\n  set c it\n  row k c\n"
                            "day 1"),
                      "reader r\n  is a\n  kind k")
        for it, v in ((0, 0), (1, 1)):
            told = (((("did", "x", it), ("k", (v,))),),)
            self.same(len(lore(rules, ("r",), (), told)), 2)
            for bad in ((((("did", "x", bool(it)), ("k", (v,))),),), (((("did", "x", it), ("k", (bool(v),))),),)):
                self.refuses(BadView, bad, lore, rules, ("r",), (), bad)

    def test_parts_of_another_pool(self):
        seen = ((row("a"),), (row("#0"),))
        for value in ((seen[::-1],), (seen[:1],), (seen[1:],), ((seen[0], ()),), (((), seen[1]),), (((), ()),)):
            self.refuses(BadView, value, lore, TWO, ("q", "r"), (), value)
        value = (seen,)
        self.refuses(BadView, value, lore, TWO, ("q",), (), value)

    def test_the_first_of_several_errors(self):
        pool, asks, told = ["r"], (WHO, ["who", "x"]), [ZERO]
        self.refuses(BadPool, pool, lore, NUMBER, pool, asks, told)
        self.refuses(BadPool, pool, lore, NUMBER, pool, (), ())
        self.refuses(BadAsks, asks, lore, NUMBER, ("r",), asks, told)
        self.refuses(BadView, told, lore, NUMBER, ("r",), (WHO,), told)
        for bad in ([], (WHO,) * 4, [WHO], WHO, None, (WHO, None)):
            self.refuses(BadAsks, bad, lore, NUMBER, ("r",), bad, ())
        for bad in [value for value in VALUES] + [("q",), ("r", "r"), "r", (), ("r", "s")]:
            self.refuses(BadPool, bad, lore, NUMBER, bad, (), ())

    def test_by_the_names_of_the_document(self):
        self.same(self.takes_names(lore, NUMBER, ("r",), (BY_A, WHO), (ZERO,)), ["rules", "pool", "asks", "view"])


class AnswersTest(Case):

    def test_answers_by_hand(self):
        rows, lores = answers(NUMBER, ("r",), BY_A, (ZERO,))
        self.same([given for given, _ in rows], [False, True])
        self.same([view(NUMBER, ("r",), run) for _, run in rows], [(ZERO,), (ZERO,)])
        self.same([answer(HOUSE, run, BY_A) for _, run in rows], [False, True])
        self.same(lores, (lore(NUMBER, ("r",), (BY_A,), ()), lore(NUMBER, ("r",), (BY_A,), (ZERO,))))
        rows, lores = answers(NUMBER, ("r",), BY_A, (ZERO, ONE, ZERO))
        self.same([given for given, _ in rows], [True])
        self.same([len(cases) for cases in lores], [1, 4, 4, 4])

    def test_answers_of_all_kinds_are_sorted(self):
        rules = Rules(HOUSE, "reader r")
        for ask, told in ((WHO, ["", "a", "b"]), (TIMES, [0, 1, 2]), (BY_A, [False, True]), (("worth", "c"), [0]),
                          (("today", "x", "b", 0), [False, True])):
            self.same([given for given, _ in answers(rules, ("r",), ask, ())[0]], told)

    def test_all_answers_and_lores(self):
        for made in some(120):
            pool, ask = made.pool(), made.ask()
            told = view(made.rules, pool, made.run(7))
            rows, lores = answers(made.rules, pool, ask, told)
            naive = Naive(made.rules, pool, (ask,)).lores(told)
            self.same(lores, tuple(tuple(sorted(cases)) for cases in naive))
            self.same(tuple(given for given, _ in rows), Naive(made.rules, pool, (ask,)).answers(naive[-1]))
            for given, run in rows:
                self.same(view(made.rules, pool, run), told)
                self.same(answer(made.house, run, ask), given)
            self.same(shows_answers(made.rules, pool, ask, told, (rows, lores)), True)

    def test_just_the_answers_that_runs_give(self):
        for made in some(40):
            pool, ask, told = made.pool(), made.ask(), {}
            for run in runs_up_to(made.house, 3):
                told.setdefault(view(made.rules, pool, run), set()).add(answer(made.house, run, ask))
            for seen in list(told)[:12]:
                known = [given for given, _ in answers(made.rules, pool, ask, seen)[0]]
                self.assertLessEqual(told[seen], set(known))

    def test_the_first_of_several_errors(self):
        pool, ask, told = ("s",), ["who", "x"], [ZERO]
        for function, more in ((answers, ()), (shows_answers, (None,))):
            self.refuses(BadPool, pool, function, NUMBER, pool, ask, told, *more)
            self.refuses(BadAsk, ask, function, NUMBER, ("r",), ask, told, *more)
            self.refuses(BadView, told, function, NUMBER, ("r",), WHO, told, *more)
            for bad in VALUES + (("who", "y"), ("times", "x", True)):
                self.refuses(BadAsk, bad, function, NUMBER, ("r",), bad, (), *more)
                self.refuses(BadPool, bad, function, NUMBER, bad, WHO, (), *more)

    def test_by_the_names_of_the_document(self):
        self.same(self.takes_names(answers, NUMBER, ("r",), BY_A, (ZERO,)), ["rules", "pool", "ask", "view"])
        self.same(self.takes_names(shows_answers, NUMBER, ("r",), BY_A, (ZERO,), None),
                  ["rules", "pool", "ask", "view", "value"])


class ShowsAnswersTest(Case):

    def setUp(self):
        self.rows, self.lores = answers(NUMBER, ("r",), BY_A, (ZERO,))

    def shown(self, told, rows, lores):
        self.same(shows_answers(NUMBER, ("r",), BY_A, (ZERO,), (rows, lores)), told)

    def test_what_answers_tells(self):
        self.shown(True, self.rows, self.lores)

    def test_other_runs_and_longer_ones(self):
        for run in ((XB,), (NIGHT, XB), (NIGHT, XB, NIGHT, NIGHT)):
            self.shown(True, ((False, run), self.rows[1]), self.lores)
        for run in ((XA,), (), (XB, NIGHT, XB), (XB, XB), [XB], (list(XB),), None, XB, (XB, NIGHT, XA)):
            self.shown(False, ((False, run), self.rows[1]), self.lores)

    def test_rows_otherwise(self):
        one, other = self.rows
        for rows in ((), (one,), (other,), (one, one, other), (one, other, other), (other, one), [one, other],
                     (list(one), other), (one + (0,), other), (one[:1], other), ((0, one[1]), other),
                     (one, (1, other[1])),
                     ((True, one[1]), (False, other[1])), (one, None), None, (one, other, (None, ())), {}):
            self.shown(False, rows, self.lores)

    def test_lores_otherwise(self):
        first, last = self.lores
        for lores in ((first,), (last,), (last, first), (first, last, last), [first, last], (list(first), last),
                      (first, list(last)), (first, ()), ((), last), (first, last[::-1]), (first, last + last[-1:]),
                      None, (),
                      (first, None), (first, (None,)), (first, (case(1, numbered("a"), (1,)),)), {}):
            self.shown(False, self.rows, lores)
        for at in range(len(last)):
            self.shown(False, self.rows, (first, last[:at] + last[at + 1:]))

    def test_lores_with_more_cases(self):
        first, last = self.lores
        # Who is numbered by nothing that came can be in a lore, too, if all that comes of it is there.
        more = (case(0, numbered("b", "a"), (True,)), case(1, numbered("b", "a"), (True,)))
        self.shown(True, self.rows, (first, tuple(sorted(last + more))))
        self.shown(True, self.rows, (first, tuple(sorted(last + more[:1]))))
        self.shown(False, self.rows, (first, tuple(sorted(last + more[1:]))))
        self.shown(False, self.rows, (first, last + more))
        # What stands ahead of the part is led on by it.
        ahead = first + (case(0, numbered("b", "a"), (False,)),)
        behind = (case(0, numbered("b", "a"), (False,)), case(1, numbered("b", "a"), (False,)))
        for added, told in (((), False), (behind[:1], False), (behind[1:], False), (behind, True)):
            self.shown(told, self.rows, (ahead, tuple(sorted(last + added))))

    def test_more_cases_with_another_answer(self):
        rows, lores = answers(NUMBER, ("r",), BY_A, (ZERO, ONE))
        self.same([given for given, _ in rows], [True])
        more = (case(0, numbered("b"), (False,)), case(1, numbered("b"), (False,)))
        value = (rows, lores[:2] + (tuple(sorted(lores[2] + more)),))
        self.same(shows_answers(NUMBER, ("r",), BY_A, (ZERO, ONE), value), False)
        more = (case(0, numbered("b"), (True,)), case(1, numbered("b"), (True,)))
        value = (rows, lores[:2] + (tuple(sorted(lores[2] + more)),))
        self.same(shows_answers(NUMBER, ("r",), BY_A, (ZERO, ONE), value), True)

    def test_values_of_every_kind(self):
        for value in VALUES + ((self.rows,), (self.rows, self.lores, ()), [self.rows, self.lores]):
            self.same(shows_answers(NUMBER, ("r",), BY_A, (ZERO,), value), False)
        for value in VALUES:
            self.shown(False, value, self.lores)
            self.shown(False, self.rows, value)
            self.shown(False, (value,), self.lores)
            self.shown(False, self.rows, (value, self.lores[1]))
            self.shown(False, self.rows, (self.lores[0], (value,)))
            self.shown(value is False, ((value, (XB,)), self.rows[1]), self.lores)
            self.shown(False, ((False, (value,)), self.rows[1]), self.lores)
            one = self.lores[0][0]
            for bad in ((value, one[1], one[2]), (one[0], value, one[2]), (one[0], one[1], value),
                        (one[0], (value,), one[2]), (one[0], one[1], (value,))):
                self.shown(False, self.rows, ((bad,), self.lores[1]))


class CourseTest(Case):

    def test_by_hand(self):
        self.same(course(NUMBER, ("r",), BY_A, (NIGHT, XA, NIGHT, XA, NIGHT, XB)),
                  ((False,), (False,), (False, True), (False, True), (False, True), (False, True), (True,)))
        self.same(course(NUMBER, ("r",), WHO, (XA, NIGHT, XB)), (("",), ("a", "b"), ("a", "b"), ("a", "b")))
        self.same(course(TWO, ("q",), WHO, (XB, NIGHT, XA)), (("", "b"),) * 3 + (("a", "b"),))
        self.same(course(TWO, ("q", "r"), WHO, (XB, NIGHT, XA)), (("",), ("b",), ("b",), ("a",)))
        self.same(course(NUMBER, ("r",), TIMES, ()), ((0,),))

    def test_one_row_more_than_moves(self):
        for made in some(80):
            pool, ask, run = made.pool(), made.ask(), made.run(9)
            told = course(made.rules, pool, ask, run)
            self.same(len(told), len(run) + 1)
            for at in range(len(run) + 1):
                seen = view(made.rules, pool, run[:at])
                self.same(told[at], tuple(given for given, _ in answers(made.rules, pool, ask, seen)[0]))
                self.assertIn(answer(made.house, run[:at], ask), told[at])
                if at and seen == view(made.rules, pool, run[:at - 1]):
                    self.same(told[at], told[at - 1])

    def test_a_greater_pool_knows_no_less(self):
        for made in some(80):
            if len(made.rules.readers) == 2:
                ask, run = made.ask(), made.run(9)
                both = course(made.rules, made.rules.readers, ask, run)
                for reader in made.rules.readers:
                    for less, more in zip(both, course(made.rules, (reader,), ask, run)):
                        self.assertLessEqual(set(less), set(more))

    def test_long_runs(self):
        run = (XA, NIGHT, XB, NIGHT) * 500
        told = course(NUMBER, ("r",), ("today", "x", "a", None), run)
        self.same(len(told), 2001)
        self.same(set(told[3:]), {(False, True)})
        self.same(course(NUMBER, ("r",), BY_A, run)[-1], (True,))

    def test_errors(self):
        pool, ask, run = (), ("who",), [XA]
        self.refuses(BadPool, pool, course, NUMBER, pool, ask, run)
        self.refuses(BadAsk, ask, course, NUMBER, ("r",), ask, run)
        self.refuses(BadRun, 0, course, NUMBER, ("r",), WHO, run)
        self.refuses(BadRun, 2, course, NUMBER, ("r",), WHO, (XA, XA))
        for value in VALUES:
            if not isinstance(value, tuple):
                self.refuses(BadRun, 0, course, NUMBER, ("r",), WHO, value)
            self.refuses(BadAsk, value, course, NUMBER, ("r",), value, ())
            self.refuses(BadPool, value, course, NUMBER, value, WHO, ())
        self.same(self.takes_names(course, NUMBER, ("r",), WHO, (XA,)), ["rules", "pool", "ask", "run"])


class TooManyTest(Case):

    RULES = Rules(House(BIG), "reader r")

    def test_more_cases_than_are_looked_at(self):
        for call in ((lore, (BIG_ASK,), ()), (answers, BIG_ASK, ()), (course, BIG_ASK, ()), (lore, (BIG_NEVER,), ()),
                     (answers, BIG_NEVER, ()), (course, BIG_NEVER, (NIGHT,))):
            self.refuses(TooMany, 2000, call[0], self.RULES, ("r",), *call[1:])
        for asks in ((), (("worth", "c"),), (("times", "x", 3), ("who", "y"))):
            self.assertLessEqual(len(lore(self.RULES, ("r",), asks, ())), 2000)

    def test_behind_all_other_errors(self):
        for bad in ([], (((),),), ((NIGHT,),), (((NIGHT,),), None)):
            self.refuses(BadView, bad, lore, self.RULES, ("r",), (BIG_ASK,), bad)
            self.refuses(BadView, bad, answers, self.RULES, ("r",), BIG_ASK, bad)
        self.refuses(BadRun, 0, course, self.RULES, ("r",), BIG_ASK, None)

    def test_the_limit_itself(self):
        rules = Rules(HOUSE, "reader r\n  nights")
        sizes = [len(cases) for cases in answers(rules, ("r",), WHO, (((NIGHT,),),))[1]]
        self.same(sizes, [3, 5])
        for most in (3, 4, 5):
            with mock.patch.object(lores_module, "LIMIT", most), mock.patch("givenout.knowing.LIMIT", most):
                for call in ((lore, (WHO,), (((NIGHT,),),)), (answers, WHO, (((NIGHT,),),)), (course, WHO, (NIGHT,))):
                    if most < 5:
                        self.refuses(TooMany, most, call[0], rules, ("r",), *call[1:])
                    else:
                        call[0](rules, ("r",), *call[1:])
                self.same(len(lore(rules, ("r",), (WHO,), ())), 3)
