from unittest import mock

from givenout import lores as lores_module
from givenout.asks import answer
from givenout.errors import BadAsk, BadRun, TooMany
from givenout.giving import view
from givenout.houses import House
from givenout.knowing import answers
from givenout.rules import Rules
from givenout.telling import greatest_of, least_of, pools_of, shows_told, told
from tests import naive
from tests.helpers import BIG, BIG_ASK, BIG_NEVER, SMALL, VALUES, Case
from tests.made import some

NIGHT = ("night",)
XA, XB = ("do", "x", "a", 0), ("do", "x", "b", 0)
HOUSE = House(SMALL)
BY_A, WHO, SOMEBODY = ("done", "x", "a", None), ("who", "x"), ("done", "x", None, None)
ONE = Rules(HOUSE, "reader r\n  kind k\n    number w")
# q sees that a did it, r that somebody did, s all.
THREE = Rules(HOUSE, "reader q\n  kind k\n    only w = a\nreader r\n  kind k\n    blank w\nreader s\n  kind k")
# Only q and r together know who did it behind the nights that r is told of.
TWO = Rules(HOUSE, "reader q\n  kind k\n    only w = a\n    blank w\nreader r\n  kind k\n    blank w")


class PoolsTest(Case):

    def test_all_pools(self):
        self.same(pools_of(THREE), [("q",), ("q", "r"), ("q", "r", "s"), ("q", "s"), ("r",), ("r", "s"), ("s",)])
        self.same(pools_of(TWO), [("q",), ("q", "r"), ("r",)])
        self.same(pools_of(ONE), [("r",)])

    def test_least_and_greatest(self):
        pools = [("q",), ("q", "r"), ("q", "r", "s"), ("r", "s")]
        self.same((least_of(pools), greatest_of(pools)), ([("q",), ("r", "s")], [("q", "r", "s")]))
        self.same((least_of(pools[:1]), greatest_of(pools[:1]), least_of([]), greatest_of([])),
                  ([("q",)], [("q",)], [], []))
        self.same((least_of(pools[1:2] + pools[3:]), greatest_of(pools[1:2] + pools[3:])), ([pools[1], pools[3]],) * 2)


class ToldTest(Case):

    def tells(self, rules, ask, run, knowing, unsure):
        """Just these pools know it, these do not; all is shown as it must be."""
        value = told(rules, ask, run)
        self.same(([pool for pool, _ in value[0]], [pool for pool, _ in value[1]]), (knowing, unsure))
        for pool, lores in value[0]:
            self.same(answers(rules, pool, ask, view(rules, pool, run))[1], lores)
        for pool, other in value[1]:
            self.same(view(rules, pool, other), view(rules, pool, run))
            self.assertNotEqual(answer(rules.house, other, ask), answer(rules.house, run, ask))
        self.same(shows_told(rules, ask, run, value), True)
        return value

    def test_one_reader(self):
        self.tells(ONE, BY_A, (XA,), [], [("r",)])
        self.tells(ONE, BY_A, (XA, NIGHT, XB), [("r",)], [])
        self.tells(ONE, BY_A, (), [("r",)], [])
        self.tells(ONE, SOMEBODY, (XB,), [("r",)], [])

    def test_two_readers_who_know_it_only_together(self):
        self.tells(TWO, WHO, (XB,), [("q", "r")], [("q",), ("r",)])
        self.tells(TWO, WHO, (XA,), [("q", "r")], [("q",), ("r",)])
        self.tells(TWO, BY_A, (XA,), [("q",)], [("r",)])
        self.tells(TWO, BY_A, (XB,), [("q",)], [("r",)])
        self.tells(TWO, SOMEBODY, (XB,), [("r",)], [("q",)])
        self.tells(TWO, ("worth", "c"), (XB,), [("q",), ("r",)], [])
        self.tells(TWO, ("today", "x", "b", None), (XB,), [], [("q", "r")])

    def test_three_readers_of_whom_one_is_given_all(self):
        self.tells(THREE, WHO, (XB,), [("q", "r"), ("s",)], [("q",), ("r",)])
        self.tells(THREE, BY_A, (XB, NIGHT, XA), [("q",), ("s",)], [("r",)])
        self.tells(THREE, SOMEBODY, (XB,), [("r",), ("s",)], [("q",)])
        self.tells(THREE, SOMEBODY, (XA,), [("q",), ("r",), ("s",)], [])
        self.tells(THREE, ("today", "x", None, None), (XB, NIGHT), [], [("q", "r", "s")])
        self.tells(Rules(HOUSE, "reader q\nreader r\n  is a\nreader s\n  is b"), WHO, (XA, NIGHT, XB),
                   [("r", "s")], [("q", "r"), ("q", "s")])

    def test_pools_that_come(self):
        seen = {}
        for made in some(160):
            ask, run = made.ask(), made.run(8)
            knowing, unsure = naive.told(made.rules, ask, run)
            value = self.tells(made.rules, ask, run, [pool for pool, _ in knowing], list(unsure))
            self.same(value[0], knowing)
            place = (len(knowing), len(unsure))
            seen[place] = seen.get(place, 0) + 1
        self.assertGreater(min(seen.get((0, 1), 0), seen.get((1, 0), 0), seen.get((1, 1), 0)), 5)

    def test_errors(self):
        for function, more in ((told, ()), (shows_told, (None,))):
            for value in VALUES + (("who", "y"), ("times", "x", 4), ("worth",), ["who", "x"]):
                self.refuses(BadAsk, value, function, ONE, value, (XA, XA), *more)
                self.refuses(BadAsk, value, function, ONE, value, value, *more)
            for run, number in ((None, 0), ([XA], 0), ("night", 0), ({}, 0), (XA, 1), ((XA, XA), 2), ((XA, None), 2),
                                ((XA, NIGHT, list(XB)), 3), ((("do", "x", "a", False),), 1), ((NIGHT,) * 3 + (0,), 4)):
                self.refuses(BadRun, number, function, ONE, WHO, run, *more)

    def test_by_the_names_of_the_document(self):
        self.same(self.takes_names(told, TWO, WHO, (XB,)), ["rules", "ask", "run"])
        self.same(self.takes_names(shows_told, TWO, WHO, (XB,), None), ["rules", "ask", "run", "value"])


class ShowsToldTest(Case):

    def setUp(self):
        self.knowing, self.unsure = told(THREE, WHO, (XB,))

    def shown(self, is_shown, knowing, unsure, ask=WHO, run=(XB,)):
        self.same(shows_told(THREE, ask, run, (knowing, unsure)), is_shown)

    def test_other_runs(self):
        (first, _), (last, _) = self.unsure
        for run, other, is_shown in (
                ((NIGHT, NIGHT), (XA,), True), ((), (XA, NIGHT), True), ((), (NIGHT, XA), True), ((XA,), (XA,), False),
                ((XB,), (XA,), False), ((), (XB,), False), ((), (XA, XA), False), ((), [XA], False),
                ((), (list(XA),), False), ([], (XA,), False), ((), None, False), ((), (XA, NIGHT, XA), False)):
            self.shown(is_shown, self.knowing, ((first, run), (last, other)))

    def test_lores_with_more(self):
        # Somebody who never did anything else, behind a night that there was not: it is b that did it.
        for pool, lores in self.knowing:
            rest = tuple([row for row in self.knowing if row[0] != pool])
            memories = tuple([((), (), (0,)) for _ in pool])
            for notes, is_shown in (((("b",),), True), ((("a",),), False)):
                more = tuple([(((1,), today), memories, notes) for today in (0, 1)])
                told_now = lores[:-1] + (tuple(sorted(lores[-1] + more)),)
                self.shown(is_shown, tuple(sorted(rest + ((pool, told_now),))), self.unsure)
                # What does not end there.
                told_now = lores[:-1] + (tuple(sorted(lores[-1] + more[1:])),)
                self.shown(False, tuple(sorted(rest + ((pool, told_now),))), self.unsure)

    def test_lores_spoilt(self):
        (pool, lores), other = self.knowing
        for at, row in enumerate(lores):
            bads = [row[:place] + row[place + 1:] for place in range(len(row))]
            for bad in bads + [list(row), row[::-1] if len(row) > 1 else (), row + row[-1:], None, row[0]]:
                self.shown(False, ((pool, lores[:at] + (bad,) + lores[at + 1:]), other), self.unsure)
        for bad in (lores[:-1], lores[1:], lores + lores[-1:], list(lores), (), None):
            self.shown(False, ((pool, bad), other), self.unsure)

    def test_pools_otherwise(self):
        self.shown(True, self.knowing, self.unsure)
        lores = {pool: answers(THREE, pool, WHO, view(THREE, pool, (XB,)))[1] for pool in pools_of(THREE)}
        one, other = self.knowing
        for knowing in ((one,), (other,), (), (one, one), (one, other, other), (other, one),
                        # Pools around those that are told.
                        (one, (("q", "r", "s"), lores[("q", "r", "s")]), other), (one, (("q", "s"), lores["q", "s"])),
                        ((("q", "r", "s"), lores["q", "r", "s"]),), (one, (("r", "s"), lores["r", "s"]), other),
                        (one, other, (("s", "q"), lores["q", "s"])), (one, (("t",), lores[("s",)])),
                        (one, other, (("q",), lores[("q",)]))):
            self.shown(False, knowing, self.unsure)
        one, other = self.unsure
        for unsure in ((one,), (other,), (), (one, one), (one, other, other), (other, one),
                       (one, other, (("s",), (XA,))), (one, (("q", "r"), (XA,)), other), (one, (("r", "q"), (XA,)))):
            self.shown(False, self.knowing, unsure)
        self.shown(False, self.unsure, self.knowing)
        self.shown(False, (), self.unsure + self.knowing)

    def test_pools_within_an_open_one(self):
        today = ("today", "x", None, None)
        run = (XB, NIGHT)
        knowing, unsure = told(THREE, today, run)
        self.same((knowing, [pool for pool, _ in unsure]), ((), [("q", "r", "s")]))
        self.shown(True, knowing, unsure, today, run)
        other = unsure[0][1]
        for pools in ((("q", "r"),), (("q",), ("r",), ("s",)), (("q", "r"), ("q", "r", "s")),
                      (("q", "r"), ("q", "s"), ("r", "s"))):
            self.shown(False, (), tuple([(pool, other) for pool in pools]), today, run)

    def test_values_of_every_kind(self):
        one, other = self.knowing
        first, last = self.unsure
        for value in VALUES:
            self.same(shows_told(THREE, WHO, (XB,), value), False)
            self.shown(False, value, self.unsure)
            self.shown(False, self.knowing, value)
            self.shown(False, (value, other), self.unsure)
            self.shown(False, self.knowing, (first, value))
            self.shown(False, ((value, one[1]), other), self.unsure)
            self.shown(False, ((one[0], value), other), self.unsure)
            self.shown(False, self.knowing, ((value, first[1]), last))
            self.shown(False, self.knowing, (first, (last[0], value)))
            self.shown(False, self.knowing, (first, (last[0], (XA, value, value, XA))))
        for value in ((self.knowing,), (self.knowing, self.unsure, ()), [self.knowing, self.unsure],
                      (list(self.knowing), self.unsure), (self.knowing, list(self.unsure))):
            self.same(shows_told(THREE, WHO, (XB,), value), False)
        self.shown(False, (list(one), other), self.unsure)
        self.shown(False, self.knowing, (first, list(last)))
        self.shown(False, (one + (0,), other), self.unsure)

    def test_of_other_runs_and_asks(self):
        value = (self.knowing, self.unsure)
        for ask, run, is_shown in ((WHO, (XB,), True), (WHO, (NIGHT, XB, NIGHT), True), (WHO, (XA,), False),
                                   (WHO, (XB, NIGHT, XB), False), (("last", "x", "b"), (XB,), True),
                                   (BY_A, (XB,), False), (WHO, (), False)):
            self.same(shows_told(THREE, ask, run, value), is_shown)


class TooManyTest(Case):

    RULES = Rules(House(BIG), "reader q\nreader r\n  is a")

    def test_more_cases_than_are_looked_at(self):
        for ask in (BIG_NEVER, BIG_ASK):
            self.refuses(TooMany, 2000, told, Rules(House(BIG), "reader r"), ask, ())
            self.refuses(TooMany, 2000, told, self.RULES, ask, ())
        value = told(self.RULES, ("worth", "c"), (("do", "x", "a", 2),))
        self.same(([pool for pool, _ in value[0]], [pool for pool, _ in value[1]]), ([("r",)], [("q",)]))

    def test_the_limit_itself(self):
        most = max([len(lore) for _, lores in told(ONE, BY_A, (XA, NIGHT, XB))[0] for lore in lores])
        for limit in (most - 1, most):
            with mock.patch.object(lores_module, "LIMIT", limit), mock.patch("givenout.knowing.LIMIT", limit):
                if limit < most:
                    self.refuses(TooMany, limit, told, ONE, BY_A, (XA, NIGHT, XB))
                else:
                    self.same([pool for pool, _ in told(ONE, BY_A, (XA, NIGHT, XB))[0]], [("r",)])

    def test_behind_all_other_errors(self):
        self.refuses(BadAsk, None, told, Rules(House(BIG), "reader r"), None, ())
        self.refuses(BadRun, 1, told, Rules(House(BIG), "reader r"), BIG_NEVER, (None,))
