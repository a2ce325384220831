from unittest import mock

from givenout.asks import answer
from givenout.cases import first_case
from givenout.errors import BadAsk, BadPool, TooMany
from givenout.giving import view
from givenout.houses import House
from givenout.knowing import course
from givenout.needing import needed, shows_needed
from givenout.rules import Rules
from tests import naive
from tests.helpers import BIG, BIG_ASK, BIG_NEVER, SMALL, VALUES, Case
from tests.made import some

NIGHT = ("night",)
XA, XB = ("do", "x", "a", 0), ("do", "x", "b", 0)
HOUSE = House(SMALL)
NUMBER = Rules(HOUSE, "reader r\n  kind k\n    number w")
DAILY = Rules(HOUSE, "reader r\n  daily\n  kind k\n    number w")
NOTHING = Rules(HOUSE, "reader r")
BY_A, SOMEBODY, WHO = ("done", "x", "a", None), ("done", "x", None, None), ("who", "x")
NONE = ((), (), (0,))


def case(today, memory, *notes):
    """A case of one reader."""
    return (((0,), today), (memory,), notes)


class NeededTest(Case):

    def sure(self, rules, pool, ask):
        word, table = told = needed(rules, pool, ask)
        self.same(word, "sure")
        self.same(table, tuple(sorted(table)))
        self.same(shows_needed(rules, pool, ask, told), True)
        return table

    def unsure(self, rules, pool, ask, moves):
        """Two runs of so many moves cannot be told apart."""
        word, run, other = told = needed(rules, pool, ask)
        self.same((word, len(run) + len(other)), ("open", moves))
        self.same(view(rules, pool, run), view(rules, pool, other))
        self.assertNotEqual(answer(rules.house, run, ask), answer(rules.house, other, ask))
        self.same(shows_needed(rules, pool, ask, told), True)

    def test_by_hand(self):
        first = case(0, NONE, (False,))
        a, b = [case(1, ((who,), (), (0,)), (True,)) for who in "ab"]
        done = case(0, NONE, (True,))
        self.same(self.sure(DAILY, ("r",), SOMEBODY), tuple(sorted([
            (first, first), (done, done), (a, a), (b, b), (a, b), (done, a), (done, b)])))
        self.unsure(NUMBER, ("r",), BY_A, 2)
        self.unsure(NUMBER, ("r",), WHO, 2)
        self.unsure(NOTHING, ("r",), SOMEBODY, 1)
        self.unsure(NOTHING, ("r",), ("often", "x", 2), 3)
        self.unsure(NOTHING, ("r",), ("times", "x", 1), 1)
        self.unsure(NUMBER, ("r",), ("today", "x", None, None), 3)
        self.sure(NUMBER, ("r",), ("worth", "c"))

    def test_what_one_reader_knows_and_another_does_not(self):
        rules = Rules(HOUSE,
                      "reader q\n  kind k\n    only w = a\n    blank w\nreader r\n  kind k\n    blank w\nreader s\n"
                      "  is b")
        self.sure(rules, ("q",), BY_A)
        self.unsure(rules, ("r",), BY_A, 2)
        self.unsure(rules, ("q",), SOMEBODY, 1)
        self.sure(rules, ("r",), SOMEBODY)
        self.sure(rules, ("q", "r"), WHO)
        self.sure(rules, ("q", "s"), WHO)
        self.unsure(rules, ("r",), WHO, 2)
        self.unsure(rules, ("s",), BY_A, 1)

    def test_least_sums_and_all_pairs(self):
        seen = {"open": 0, "sure": 0}
        for made in some(200):
            pool, ask = made.pool(), made.ask()
            told = naive.needed(made.rules, pool, ask)
            seen[told[0]] += 1
            if told[0] == "open":
                self.unsure(made.rules, pool, ask, told[1])
            else:
                self.same(needed(made.rules, pool, ask), told)
                self.same(shows_needed(made.rules, pool, ask, told), True)
        self.assertGreater(min(seen.values()), 50)

    def test_what_is_sure_is_known_at_all_times(self):
        for made in some(60):
            pool, ask, run = made.pool(), made.ask(), made.run(9)
            if needed(made.rules, pool, ask)[0] == "sure":
                self.same([len(given) for given in course(made.rules, pool, ask, run)], [1] * (len(run) + 1))

    def test_errors(self):
        for function, more in ((needed, ()), (shows_needed, (None,))):
            pool, ask = ("r", "r"), ["who", "x"]
            self.refuses(BadPool, pool, function, NUMBER, pool, ask, *more)
            self.refuses(BadAsk, ask, function, NUMBER, ("r",), ask, *more)
            for value in VALUES + (("who", "y"), ("times", "x", 4), ("now", "c", True), ("worth",)):
                self.refuses(BadAsk, value, function, NUMBER, ("r",), value, *more)
                self.refuses(BadPool, value, function, NUMBER, value, WHO, *more)

    def test_by_the_names_of_the_document(self):
        self.same(self.takes_names(needed, NUMBER, ("r",), WHO), ["rules", "pool", "ask"])
        self.same(self.takes_names(needed, DAILY, ("r",), SOMEBODY), ["rules", "pool", "ask"])
        self.same(self.takes_names(shows_needed, NUMBER, ("r",), WHO, None), ["rules", "pool", "ask", "value"])


class ShowsSureTest(Case):

    def setUp(self):
        self.table = needed(DAILY, ("r",), SOMEBODY)[1]

    def shown(self, told, table):
        self.same(shows_needed(DAILY, ("r",), SOMEBODY, ("sure", table)), told)

    def test_pairs_otherwise(self):
        table = self.table
        self.shown(True, table)
        for at, (one, other) in enumerate(table):
            ahead, behind = table[:at], table[at + 1:]
            self.shown(False, ahead + behind)
            self.shown(False, ahead + ((one, other),) * 2 + behind)
            self.shown(one == other, tuple(sorted(ahead + ((other, one),) + behind)))
            self.shown(one == other, tuple(sorted(set(table + ((other, one),)))))
            for bad in ([one, other], (one,), (one, other, other), (one, None), (None, other), (list(one), other), one):
                self.shown(False, ahead + (bad,) + behind)
        for bad in (table[::-1], list(table), (), None, table[:1], table + table[:1]):
            self.shown(False, bad)

    def test_more_pairs(self):
        first = first_case(DAILY, ("r",), (SOMEBODY,))
        # Two cases that never come, with all that comes of them.
        more, other = (((1,), 0),) + first[1:], (((1,), 1),) + first[1:]
        table = naive.Naive(DAILY, ("r",), (SOMEBODY,))
        pairs, ahead = set(), [(more, other)]
        while ahead:
            pair = ahead.pop()
            if pair not in pairs:
                pairs.add(pair)
                ahead.extend([behind for _, behind in table.next_pairs(pair)])
        self.shown(True, tuple(sorted(set(self.table) | pairs)))
        self.assertGreater(len(pairs - set(self.table)), 2)
        for pair in sorted(pairs - set(self.table) - {(more, other)}):
            self.shown(False, tuple(sorted(set(self.table) | (pairs - {pair}))))
        self.shown(True, tuple(sorted(set(self.table) | (pairs - {(more, other)}))))
        # With unlike answers: closed, but no longer known.
        done = tuple(sorted([first, first[:2] + (((True,),),)]))
        self.shown(False, tuple(sorted(self.table + (done,))))

    def test_without_the_first_case(self):
        first = first_case(DAILY, ("r",), (SOMEBODY,))
        self.shown(False, tuple([pair for pair in self.table if first not in pair]))

    def test_of_other_rules_or_asks(self):
        value = ("sure", self.table)
        for rules, ask, told in ((DAILY, SOMEBODY, True), (NUMBER, SOMEBODY, False), (NOTHING, SOMEBODY, False),
                                 (DAILY, BY_A, False), (DAILY, WHO, False), (DAILY, ("today", "x", None, None), False)):
            self.same(shows_needed(rules, ("r",), ask, value), told)

    def test_values_of_every_kind(self):
        (one, other), rest = self.table[0], self.table[1:]
        for value in VALUES:
            self.same(shows_needed(DAILY, ("r",), SOMEBODY, value), False)
            self.same(shows_needed(DAILY, ("r",), SOMEBODY, (value, self.table)), False)
            self.shown(False, value)
            self.shown(False, (value,) + rest)
            self.shown(False, ((value, other),) + rest)
            self.shown(False, ((one, value),) + rest)
            for bad in ((value, one[1], one[2]), (one[0], value, one[2]), (one[0], one[1], value)):
                self.shown(False, ((bad, bad),) + rest)
        for value in (("sure",), ("sure", self.table, ()), ["sure", self.table], ("open", self.table)):
            self.same(shows_needed(DAILY, ("r",), SOMEBODY, value), False)


class ShowsOpenTest(Case):

    def shown(self, told, *value):
        self.same(shows_needed(NUMBER, ("r",), BY_A, value), told)

    def test_runs_with_one_view_and_unlike_answers(self):
        for run, other in (((XA,), (XB,)), ((XB,), (XA,)), ((NIGHT, XA, NIGHT, NIGHT, XA),
                                                            (XB, NIGHT, NIGHT, XB, NIGHT))):
            self.shown(True, "open", run, other)
        # Unlike views, like answers, no runs.
        for run, other in (((XA,), (XB, NIGHT, XB)), ((XA,), ()), ((XA,), (XA,)), ((XA, NIGHT, XB), (XB, NIGHT, XA)),
                           ((XA, XA), (XB, XB)), ((XA,), [XB]), ([XA], (XB,)), ((XA,), (list(XB),)), (XA, XB),
                           ((("do", "x", "a", False),), (XB,))):
            self.shown(False, "open", run, other)

    def test_values_of_every_kind(self):
        for value in VALUES:
            self.shown(False, value, (XA,), (XB,))
            self.shown(False, "open", value, (XB,))
            self.shown(False, "open", (XA,), value)
            self.shown(False, "open", (value,), (XB,))
            self.shown(value == NIGHT, "open", (XA,), (XB, value))
        self.shown(False, "open", (XA,))
        self.shown(False, "open", (XA,), (XB,), ())
        self.shown(False, "sure", (XA,), (XB,))
        self.same(shows_needed(NUMBER, ("r",), BY_A, ["open", (XA,), (XB,)]), False)


class TooManyTest(Case):

    RULES = Rules(House(BIG), "reader r")

    def test_more_pairs_than_are_looked_at(self):
        self.refuses(TooMany, 2000, needed, self.RULES, ("r",), BIG_NEVER)
        # This is unsure, but by runs that are longer.
        late = ("and", ("often", "x", 3), ("often", "y", 3))
        self.refuses(TooMany, 2000, needed, self.RULES, ("r",), late)

    def test_pairs_by_more_moves_do_not_count(self):
        for ask, moves in ((BIG_ASK, 1), (("worth", "c"), 1), (("often", "x", 2), 2)):
            word, run, other = needed(self.RULES, ("r",), ask)
            self.same((word, len(run) + len(other)), ("open", moves))

    def test_the_limit_itself(self):
        many = len(needed(DAILY, ("r",), SOMEBODY)[1])
        for limit in (many - 1, many):
            with mock.patch("givenout.needing.LIMIT", limit):
                if limit < many:
                    self.refuses(TooMany, limit, needed, DAILY, ("r",), SOMEBODY)
                else:
                    self.same(len(needed(DAILY, ("r",), SOMEBODY)[1]), many)
        # Ahead of the two runs, by one move less in all: the first case with itself and those one move on.
        for limit in (0, 1):
            with mock.patch("givenout.needing.LIMIT", limit):
                if limit < 1:
                    self.refuses(TooMany, limit, needed, NOTHING, ("r",), SOMEBODY)
                else:
                    self.same(needed(NOTHING, ("r",), SOMEBODY)[0], "open")

    def test_behind_all_other_errors(self):
        ask = BIG_NEVER + (0,)
        self.refuses(BadAsk, ask, needed, self.RULES, ("r",), ask)
        self.refuses(BadPool, ask, needed, self.RULES, ask, BIG_NEVER)
