import contextlib
from unittest import mock

from givenout import lores as lores_module, members as members_module, waiting as waiting_module
from givenout.cases import cases_behind, first_case
from givenout.errors import BadAsk, BadDeed, BadPool, TooMany
from givenout.giving import view
from givenout.houses import House
from givenout.knowing import course, lore
from givenout.rules import Rules
from givenout.waiting import shows_waiting, waiting
from tests import naive
from tests.helpers import BIG, BIG_ASK, SMALL, VALUES, Case
from tests.made import some

NIGHT = ("night",)
XA, XB = ("do", "x", "a", 0), ("do", "x", "b", 0)
HOUSE = House(SMALL)
NUMBER = Rules(HOUSE, "reader r\n  kind k\n    number w")
DAILY = Rules(HOUSE, "reader r\n  daily\n  kind k\n    number w")
BY_A, SOMEBODY = ("done", "x", "a", None), ("done", "x", None, None)

TURNING = House("people a\ncell s 4 0\ncell c 2 0\nkind p\nkind k\n  worth v 4\ndeed put\n  if c = 0\n  pick 4\n"
                "  set s it\n"
                "  set c 1\n  row p\ndeed turn\n  if c = 1\n  add s 1\n  row k s\nday 1")
COARSE = Rules(TURNING, "reader r\n  kind p\n  kind k\n    coarse v 2")
PUT, TURN = ("do", "put", "a", 1), ("do", "turn", "a", 0)
WORTH = ("worth", "s")

BAD_DEEDS = ("put ", "p", "s", "a", "k", "turns", "", None, 0, True, ("put",), ["put"], {"put": 1})


class WaitingTest(Case):

    def most(self, rules, pool, ask, deed, number):
        """So often at most; the run ends in such a stretch, and what is told shows it."""
        told = waiting(rules, pool, ask, deed)
        self.same(told[:2], ("most", number))
        known = course(rules, pool, ask, told[2])
        done = 0
        for given, move in zip(known[:-1][::-1], told[2][::-1]):
            if len(given) == 1:
                break
            done += move[0] == "do" and move[1] == deed
        self.same(done if len(known[-1]) > 1 else -1, number)
        self.same(shows_waiting(rules, pool, ask, deed, told), True)
        return told

    def endless(self, rules, pool, ask, deed):
        """The ring can be done again and again, and what is told shows it."""
        told = waiting(rules, pool, ask, deed)
        word, run, ring = told
        self.same(word, "endless")
        self.assertTrue(any([move[0] == "do" and move[1] == deed for move in ring]))
        known = course(rules, pool, ask, run + ring)[len(run):]
        self.assertTrue(all([len(given) > 1 for given in known]))
        self.same(*[self.case_behind(rules, pool, ask, moves) for moves in (run, run + ring)])
        self.same(*[lore(rules, pool, (ask,), view(rules, pool, moves)) for moves in (run, run + ring)])
        self.same(shows_waiting(rules, pool, ask, deed, told), True)

    def case_behind(self, rules, pool, ask, run):
        case = first_case(rules, pool, (ask,))
        for done in run:
            case, = [behind for move, _, behind in cases_behind(rules, pool, (ask,), case) if move == done]
        return case

    def test_the_example(self):
        told = self.most(COARSE, ("r",), WORTH, "turn", 1)
        self.same(sorted(set([row[2] for row in told[3][1]])), [-1, 0, 1])
        self.most(COARSE, ("r",), WORTH, "put", 0)

    def test_what_is_always_known(self):
        for ask in (SOMEBODY, ("worth", "c")):
            word, number, run, (lores, members) = self.most(DAILY, ("r",), ask, "x", -1)
            self.same(run, ())
            self.same({height for _, _, height in members}, {-1})
            table = naive.Naive(DAILY, ("r",), (ask,))
            self.same((lores, tuple([(case, at) for case, at, _ in members])),
                      table.table(set().union(*table.levels())))

    def test_again_and_again(self):
        self.endless(DAILY, ("r",), BY_A, "x")
        # By numbers that go on, who is "#0" is never known if the other one never comes.
        self.endless(NUMBER, ("r",), BY_A, "x")
        self.endless(Rules(HOUSE, "reader r"), ("r",), SOMEBODY, "x")
        self.endless(Rules(HOUSE, "reader r\n  is a"), ("r",), ("who", "x"), "x")

    def test_who_does_it_does_not_matter(self):
        # Only a is seen; that b did not do it is never known.
        rules = Rules(HOUSE, "reader r\n  kind k\n    only w = a")
        word, run, ring = waiting(rules, ("r",), ("done", "x", "b", None), "x")
        self.same(word, "endless")
        for ring in ((XA, NIGHT), (XB, NIGHT), (XB, NIGHT, XA, NIGHT)):
            value = ("endless", (XB, NIGHT, XA, NIGHT), ring)
            self.same(shows_waiting(rules, ("r",), ("done", "x", "b", None), "x", value), True)

    def test_a_stretch_without_moves(self):
        # Behind the deed it is not known what was picked, then nothing more can be done but look.
        house = House("people a b\ncell c 2 0\ncell d 2 0\nkind k\n  worth v 2\nkind l\ndeed x\n  if d = 0\n"
                      "  pick 2\n  set c it\n"
                      "  set d 1\n  row l\ndeed y\n  if d = 1\n  row k c\nday 2")
        rules = Rules(house, "reader r\n  nights\n  kind k\n  kind l")
        self.most(rules, ("r",), ("worth", "c"), "x", 0)
        told = self.most(rules, ("r",), ("worth", "c"), "y", 0)
        self.same(len(told[2]) > 0, True)

    def test_a_longer_wait(self):
        # Each step is seen, but only the fourth one tells where it began.
        house = House("people a b\ncell c 4 0\ncell d 4 0\nkind k\n  worth v 4\nkind l\ndeed x\n  if d = 0\n"
                      "  pick 4\n  set c it\n"
                      "  set d 1\n  row l\ndeed y\n  if d != 0\n  if d != 3\n  add d 1\n  row l\ndeed z\n"
                      "  if d = 3\n  row k c\nday 2")
        rules = Rules(house, "reader r\n  kind k\n  kind l")
        self.most(rules, ("r",), ("worth", "c"), "y", 2)
        self.most(rules, ("r",), ("worth", "c"), "x", 0)
        self.most(rules, ("r",), ("worth", "c"), "z", 0)
        self.endless(Rules(house, "reader r\n  kind l"), ("r",), ("worth", "c"), "z")

    def test_greatest_numbers_and_least_heights(self):
        seen = {"most": 0, "endless": 0}
        for made in some(250):
            pool, ask, deed = made.pool(), made.ask(), made.deed()
            word, *told = naive.waiting(made.rules, pool, ask, deed)
            seen[word] += word != "most" or told[0] >= 0
            if word == "endless":
                self.endless(made.rules, pool, ask, deed)
            else:
                told = self.most(made.rules, pool, ask, deed, told[0])[3:] == (told[1],)
                self.assertTrue(told)
        self.assertGreater(min(seen.values()), 20)

    def test_errors(self):
        for function, more in ((waiting, ()), (shows_waiting, (None,))):
            pool, ask, deed = ("r", "r"), ["worth", "s"], ["put"]
            self.refuses(BadPool, pool, function, COARSE, pool, ask, deed, *more)
            self.refuses(BadAsk, ask, function, COARSE, ("r",), ask, deed, *more)
            self.refuses(BadDeed, deed, function, COARSE, ("r",), WORTH, deed, *more)
            for value in VALUES + BAD_DEEDS:
                self.refuses(BadDeed, value, function, COARSE, ("r",), WORTH, value, *more)
            for value in VALUES:
                self.refuses(BadAsk, value, function, COARSE, ("r",), value, "put", *more)
                self.refuses(BadPool, value, function, COARSE, value, WORTH, "put", *more)

    def test_by_the_names_of_the_document(self):
        self.same(self.takes_names(waiting, COARSE, ("r",), WORTH, "turn"), ["rules", "pool", "ask", "deed"])
        self.same(self.takes_names(waiting, NUMBER, ("r",), BY_A, "x"), ["rules", "pool", "ask", "deed"])
        self.same(self.takes_names(shows_waiting, COARSE, ("r",), WORTH, "turn", None),
                  ["rules", "pool", "ask", "deed", "value"])


class ShowsMostTest(Case):

    def setUp(self):
        _, self.number, self.run_told, (self.lores, self.members) = waiting(COARSE, ("r",), WORTH, "turn")

    def shown(self, told, number, run, heights, deed="turn"):
        self.same(shows_waiting(COARSE, ("r",), WORTH, deed, ("most", number, run, heights)), told)

    def heights(self, *rows):
        """Heights with these in the place of those of the same case and lore."""
        put = {row[:2]: row for row in rows}
        return (self.lores, tuple([put.get(row[:2], row) for row in self.members]))

    def test_other_runs(self):
        heights = (self.lores, self.members)
        for run in ((PUT, NIGHT, TURN), (NIGHT, PUT, NIGHT, NIGHT, TURN, NIGHT, NIGHT), self.run_told):
            self.shown(True, 1, run, heights)
        for run in ((), (PUT,), (PUT, NIGHT), (PUT, NIGHT, TURN, NIGHT, TURN), (NIGHT,), [PUT, NIGHT, TURN], (TURN,),
                    None,
                    (PUT, TURN), PUT, (list(PUT), NIGHT, TURN)):
            self.shown(False, 1, run, heights)

    def test_other_numbers(self):
        for number in (-2, -1, 0, 2, 3, True, None, "1", (1,), 10 ** 17):
            self.shown(False, number, self.run_told, (self.lores, self.members))
        value = waiting(COARSE, ("r",), WORTH, "put")
        self.same(shows_waiting(COARSE, ("r",), WORTH, "put", value), True)
        for number in (-1, 1, False):
            self.shown(False, number, value[2], value[3], "put")
        for run in ((PUT,), (PUT, NIGHT, TURN), (NIGHT, PUT, NIGHT)):
            self.shown(True, 0, run, value[3], "put")
        for run in ((), (NIGHT,), (PUT, NIGHT, TURN, NIGHT, TURN)):
            self.shown(False, 0, run, value[3], "put")

    def test_other_heights(self):
        for row in self.members:
            for other in (-2, 2, 3, True, False, None, "0", 10 ** 17, (row[2],)):
                self.shown(False, 1, self.run_told, self.heights(row[:2] + (other,)))
            self.shown(False, 1, self.run_told, self.heights(row[:2] + (row[2] - 1,)))
        self.shown(False, 2, self.run_told, self.heights(*[row[:2] + (2,) for row in self.members if row[2] >= 0]))

    def test_all_heights_that_suffice(self):
        # Behind q it cannot be done any more, so greater heights than needed are let there, but for what leads there.
        branches = House("people a\ncell s 2 0\ncell c 4 0\nkind l\nkind m\ndeed p\n  if c = 0\n  pick 2\n"
                         "  set s it\n  set c 1\n"
                         "  row l\ndeed q\n  if c = 0\n  pick 2\n  set s it\n  set c 2\n  row m\ndeed turn\n"
                         "  if c = 1\n  set c 3\nday 1")
        calls = [(Rules(branches, "reader r\n  kind l\n  kind m"), ("r",), ("worth", "s"), "turn")]
        calls += [(made.rules, made.pool(), made.ask(), made.deed()) for made in some(150)]
        seen = {}
        for rules, pool, ask, deed in calls:
            told = waiting(rules, pool, ask, deed)
            if told[0] == "most" and told[1] > 0:
                lores, members = told[3]
                for at, row in enumerate(members):
                    for height in range(-1, told[1] + 2):
                        rows = members[:at] + (row[:2] + (height,),) + members[at + 1:]
                        good = self.suffice(naive.Naive(rules, pool, (ask,)), deed, told[1], lores, rows)
                        self.same(shows_waiting(rules, pool, ask, deed, told[:3] + ((lores, rows),)), good)
                        sign = (height > row[2]) - (height < row[2])
                        seen[(sign, good)] = seen.get((sign, good), 0) + 1
        self.same(sorted(seen), [(-1, False), (0, True), (1, False), (1, True)])

    def suffice(self, table, deed, number, lores, rows):
        """Whether the heights are such as the document tells."""
        heights = {(case, frozenset(lores[at])): height for case, at, height in rows}
        for member, height in heights.items():
            if len(table.answers(member[1])) == 1:
                if height != -1:
                    return False
                continue
            for move, behind in table.next_members(member):
                least = heights[behind] + (move[0] == "do" and move[1] == deed)
                if len(table.answers(behind[1])) > 1 and height < least:
                    return False
            if not 0 <= height <= number:
                return False
        return True

    def test_lores_and_members_otherwise(self):
        run = self.run_told
        for at in range(len(self.members)):
            ahead, behind = self.members[:at], self.members[at + 1:]
            row = self.members[at]
            for bad in (ahead + behind, ahead + (row, row) + behind, ahead + (list(row),) + behind,
                        ahead + (row[:2],) + behind,
                        ahead + (row + (0,),) + behind, ahead + ((row[0], row[1] + 1, row[2]),) + behind,
                        ahead + ((row[0], bool(row[1]), row[2]),) + behind, ahead + (None,) + behind):
                self.shown(False, 1, run, (self.lores, bad))
        for bad in (self.members[::-1], list(self.members), (), None):
            self.shown(False, 1, run, (self.lores, bad))
        for bad in (self.lores[:-1], self.lores[1:], self.lores[::-1], list(self.lores), self.lores + self.lores[-1:],
                    (), None,
                    self.lores + (self.lores[0][:1],), self.lores[:-1] + (self.lores[-1][::-1],),
                    (list(self.lores[0]),) + self.lores[1:]):
            self.shown(False, 1, run, (bad, self.members))
        for bad in ((self.lores,), (self.lores, self.members, ()), [self.lores, self.members]):
            self.shown(False, 1, run, bad)

    def test_true_is_not_1(self):
        case, at, height = self.members[0]
        (worths, today), memories, notes = case
        for bad in ((((bool(worths[0]),) + worths[1:], today), memories, notes),
                    ((worths, bool(today)), memories, notes)):
            self.shown(False, 1, self.run_told, (self.lores, ((bad, at, height),) + self.members[1:]))
            self.shown(False, 1, self.run_told, (((bad,) + self.lores[0][1:],) + self.lores[1:], self.members))

    def test_values_of_every_kind(self):
        rest = self.members[1:]
        for value in VALUES:
            for ask, deed in ((WORTH, "turn"), (("now", "s", 0), "put")):
                self.same(shows_waiting(COARSE, ("r",), ask, deed, value), False)
            self.shown(repr(value) == "1", value, self.run_told, (self.lores, self.members))
            self.shown(False, 1, value, (self.lores, self.members))
            self.shown(False, 1, self.run_told, value)
            self.shown(False, 1, self.run_told, (value, self.members))
            self.shown(False, 1, self.run_told, (self.lores, value))
            self.shown(False, 1, self.run_told, (self.lores, (value,) + rest))
            self.shown(False, 1, self.run_told, ((value,) + self.lores[1:], self.members))
            case, at, _ = self.members[0]
            self.shown(False, 1, self.run_told, (self.lores, ((value, at, -1),) + rest))
            self.shown(repr(value) == "-1", 1, self.run_told, (self.lores, ((case, at, value),) + rest))
        self.same(self.members[0][2], -1)
        value = ("most", 1, self.run_told, (self.lores, self.members))
        for bad in (list(value), value[:3], value + ((),), ("endless",) + value[1:], ("Most",) + value[1:],
                    (None,) + value[1:]):
            self.same(shows_waiting(COARSE, ("r",), WORTH, "turn", bad), False)

    def test_what_is_always_known(self):
        value = waiting(DAILY, ("r",), SOMEBODY, "x")
        self.same(value[:3], ("most", -1, ()))
        for run in ((NIGHT,), (XA,), [], None, (None,)):
            self.same(shows_waiting(DAILY, ("r",), SOMEBODY, "x", ("most", -1, run, value[3])), False)
        for number in (0, -2):
            self.same(shows_waiting(DAILY, ("r",), SOMEBODY, "x", ("most", number, (), value[3])), False)


class ShowsEndlessTest(Case):

    def shown(self, told, *value):
        self.same(shows_waiting(NUMBER, ("r",), BY_A, "x", value), told)

    def test_rings(self):
        for run, ring in (((XA,), (NIGHT, XA)), ((XB,), (NIGHT, XB)), ((XA, NIGHT), (XA, NIGHT)),
                          ((NIGHT, XA, NIGHT, XA), (NIGHT, NIGHT, XA)),
                          ((XA,), (NIGHT, XA, NIGHT, XA, NIGHT, NIGHT, XA))):
            self.shown(True, "endless", run, ring)
        for run, ring in (
                ((XA, NIGHT), (NIGHT,)), ((XA,), ()), ((), (XA, NIGHT)), ((NIGHT,), (XA, NIGHT)), ((XA, NIGHT), (XA,)),
                ((XA,), (NIGHT,)), ((XA,), (XA, NIGHT)), ((XA,), [NIGHT, XA]), ([XA], (NIGHT, XA)),
                ((XA, XA), (NIGHT, XA)),
                ((XA, NIGHT, XB), (NIGHT, XA)), ((XA,), (NIGHT, XB)), ((XA,), (NIGHT, XA, NIGHT, XB)),
                (XA, (NIGHT, XA)),
                ((XA,), (NIGHT, list(XA))), (None, (NIGHT, XA)), ((XA,), None)):
            self.shown(False, "endless", run, ring)

    def test_the_lore_is_the_same_too(self):
        # Only what a does is seen. Behind the first of it, nobody else can have done anything before the next night.
        rules, ask = Rules(HOUSE, "reader r\n  kind k\n    only w = a"), ("done", "x", "b", None)
        for run, told in (((XB, NIGHT), False), ((XB, NIGHT, XA, NIGHT), True), ((XA, NIGHT), True),
                          ((XA, NIGHT, XB, NIGHT), True)):
            self.same(shows_waiting(rules, ("r",), ask, "x", ("endless", run, (XA, NIGHT))), told)
        self.same(len({lore(rules, ("r",), (ask,), view(rules, ("r",), run)) for run in ((), (XA,), (XA, NIGHT, XA))}),
                  2)
        self.same(self.case(rules, ask, (XB, NIGHT)), self.case(rules, ask, (XB, NIGHT, XA, NIGHT)))

    def case(self, rules, ask, run):
        return WaitingTest.case_behind(self, rules, ("r",), ask, run)

    def test_another_deed(self):
        for ask, deed, told in ((WORTH, "turn", False), (WORTH, "put", False)):
            value = ("endless", (PUT, NIGHT), (TURN, NIGHT) * 4)
            self.same(shows_waiting(COARSE, ("r",), ask, deed, value), told)
        rules = Rules(TURNING, "reader r")
        value = ("endless", (PUT, NIGHT), (TURN, NIGHT) * 4)
        self.same(shows_waiting(rules, ("r",), WORTH, "turn", value), True)
        self.same(shows_waiting(rules, ("r",), WORTH, "put", value), False)
        self.same(shows_waiting(rules, ("r",), WORTH, "turn", ("endless", (PUT, NIGHT), (TURN, NIGHT) * 3)), False)

    def test_values_of_every_kind(self):
        for value in VALUES:
            self.shown(False, value, (XA,), (NIGHT, XA))
            self.shown(False, "endless", value, (NIGHT, XA))
            self.shown(False, "endless", (XA,), value)
            self.shown(False, "endless", (value,), (NIGHT, XA))
            self.shown(value == NIGHT, "endless", (XA,), (NIGHT, value, XA))
        self.shown(False, "endless", (XA,))
        self.shown(False, "endless", (XA,), (NIGHT, XA), ())
        self.same(shows_waiting(NUMBER, ("r",), BY_A, "x", ["endless", (XA,), (NIGHT, XA)]), False)


class TooManyTest(Case):

    def test_by_any_runs(self):
        for text in ("reader r", "reader r\n  is a\n  nights"):
            # That it can be done again and again is plain at once, but all is looked at first.
            self.refuses(TooMany, 2000, waiting, Rules(House(BIG), text), ("r",), BIG_ASK, "x")
        self.same(waiting(Rules(House(BIG), "reader r"), ("r",), ("worth", "c"), "x")[0], "endless")

    def test_the_limits_themselves(self):
        value = waiting(COARSE, ("r",), WORTH, "turn")
        lores, members = value[3]
        for modules, many in (((members_module,), len(members)),
                              ((lores_module, waiting_module), max([len(row) for row in lores]))):
            for limit in (many - 1, many):
                with contextlib.ExitStack() as stack:
                    for module in modules:
                        stack.enter_context(mock.patch.object(module, "LIMIT", limit))
                    if limit < many:
                        self.refuses(TooMany, limit, waiting, COARSE, ("r",), WORTH, "turn")
                    else:
                        self.same(waiting(COARSE, ("r",), WORTH, "turn"), value)

    def test_behind_all_other_errors(self):
        rules = Rules(House(BIG), "reader r")
        self.refuses(BadDeed, "v", waiting, rules, ("r",), BIG_ASK, "v")
        self.refuses(BadAsk, None, waiting, rules, ("r",), None, "v")

    def test_shows_waiting_does_not_raise_it(self):
        rules = Rules(House(BIG), "reader r")
        value = ("most", 1, (("do", "x", "a", 0),), ((), ()))
        self.assertIn(shows_waiting(rules, ("r",), BIG_ASK, "x", value), (False, True))
