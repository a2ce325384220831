from math import comb
from unittest import mock

from givenout.asks import answer
from givenout.counting import enough, many
from givenout.errors import BadAsk, BadCount, BadPool, BadRun, BadView, TooMany, Unsure
from givenout.giving import view
from givenout.houses import House
from givenout.knowing import answers
from givenout.rules import Rules
from tests import naive
from tests.helpers import BIG, BIG_ASK, BIG_NEVER, SMALL, VALUES, Case
from tests.made import some

NIGHT = ("night",)
XA, XB = ("do", "x", "a", 0), ("do", "x", "b", 0)
HOUSE = House(SMALL)
NUMBER = Rules(HOUSE, "reader r\n  kind k\n    number w")
NOTHING = Rules(HOUSE, "reader r")
BY_A, WHO, TIMES = ("done", "x", "a", None), ("who", "x"), ("times", "x", 3)


def part(*words):
    return (tuple([("k", (word,)) for word in words]),)


ZERO, ONE = part("#0"), part("#1")

# Each deed is free at all times, three a day; nothing is noted in a book.
FREE = House("people ann bob cy\ncell c 4 0\ncell d 3 0\ndeed x\n  pick 4\n  set c it\ndeed y\n  by bob\n  pick 2\n"
             "  add d it\nday 3")


def free_runs(deeds, most):
    """How many runs there are of at most so many moves if so many deeds are possible, three times a day."""
    rows = {0: 1}
    total = 1
    for _ in range(most):
        behind = {today + 1: runs * deeds for today, runs in rows.items() if today < 3}
        behind[0] = sum(rows.values())
        rows = behind
        total += sum(rows.values())
    return total


class ManyTest(Case):

    def test_by_hand(self):
        # Ahead of "#0" and behind it stand nights; there are two of it, by a and by b.
        for most, runs in ((0, None), (1, 1), (2, 1 + 2), (3, 1 + 2 + 3), (30, 30 * 31 // 2)):
            told = many(NUMBER, ("r",), WHO, (ZERO,), most)
            self.same(told, () if runs is None else (("a", runs), ("b", runs)))
        self.same(many(NUMBER, ("r",), BY_A, (), 0), ((False, 1),))
        self.same(many(NUMBER, ("r",), BY_A, (), 5), ((False, 6),))
        self.same(many(NUMBER, ("r",), BY_A, (ZERO, ONE), 3), ((True, 2),))
        self.same(many(NUMBER, ("r",), BY_A, (ZERO, ONE), 2), ())

    def test_none_where_no_run_is_so_short(self):
        seen = (ZERO, ONE, ONE)
        for most in range(5):
            self.same(many(NUMBER, ("r",), WHO, seen, most), ())
        self.same(many(NUMBER, ("r",), WHO, seen, 5), (("a", 1), ("b", 1)))

    def test_all_short_runs(self):
        for made in some(60):
            pool, ask = made.pool(), made.ask()
            most = 4 if len(made.house.doings) < 6 else 3
            totals = {}
            for run in naive.runs_up_to(made.house, most):
                row = totals.setdefault(view(made.rules, pool, run), {})
                for length in range(len(run), most + 1):
                    told = row.setdefault(length, {})
                    given = answer(made.house, run, ask)
                    told[given] = told.get(given, 0) + 1
            for seen in list(totals)[:10]:
                for length in range(most + 1):
                    self.same(many(made.rules, pool, ask, seen, length),
                              tuple(sorted(totals[seen].get(length, {}).items())))

    def test_great_numbers(self):
        rules = Rules(FREE, "reader r")
        for most in (0, 1, 2, 7, 30):
            told = many(rules, ("r",), ("now", "d", 0), (), most)
            self.same(sum([runs for _, runs in told]), free_runs(14, most))
        self.same([free_runs(14, most) for most in (0, 1, 2)], [1, 1 + 15, 1 + 15 + 15 ** 2])
        self.assertGreater(free_runs(14, 30), 10 ** 28)
        # Twelve deeds are left if y is never done, eight if ann does not do x either.
        told = many(rules, ("r",), ("done", "y", None, None), (), 30)
        self.same(told, ((False, free_runs(12, 30)), (True, free_runs(14, 30) - free_runs(12, 30))))
        told = many(rules, ("r",), ("or", ("done", "y", None, None), ("done", "x", "ann", None)), (), 30)
        self.same(told, ((False, free_runs(8, 30)), (True, free_runs(14, 30) - free_runs(8, 30))))

    def test_how_often_something_was_done(self):
        # One deed a day by one person: of n moves k are deeds, with a night between each two of them at least.
        house = House("people a\ncell c 2 0\ndeed x\nday 1")
        told = many(Rules(house, "reader r"), ("r",), TIMES, (), 30)
        runs = [sum([comb(n - k + 1, k) for n in range(31) if n + 1 >= 2 * k]) for k in range(16)]
        self.same(told, tuple(enumerate(runs[:3])) + ((3, sum(runs[3:])),))

    def test_they_add_up_to_all_runs_of_the_view(self):
        for made in some(60):
            pool, seen = made.pool(), view(made.rules, made.rules.readers, made.run(5))
            pool = made.rules.readers
            one, other = made.ask(), made.ask()
            told = [many(made.rules, pool, ask, seen, 9) for ask in (one, other)]
            self.same(sum([runs for _, runs in told[0]]), sum([runs for _, runs in told[1]]))
            for ask, rows in zip((one, other), told):
                self.assertTrue(all([runs > 0 for _, runs in rows]))
                known = [given for given, _ in answers(made.rules, pool, ask, seen)[0]]
                self.assertLessEqual({given for given, _ in rows}, set(known))

    def test_no_lore_is_too_great(self):
        rules = Rules(House(BIG), "reader r")
        told = many(rules, ("r",), BIG_ASK, (), 4)
        self.same(told, ((False, free_runs(8, 4)), (True, free_runs(12, 4) - free_runs(8, 4))))

    def test_errors(self):
        pool, ask, seen = ["r"], ["who"], (ONE,)
        self.refuses(BadPool, pool, many, NUMBER, pool, ask, seen, -1)
        self.refuses(BadAsk, ask, many, NUMBER, ("r",), ask, seen, -1)
        self.refuses(BadView, seen, many, NUMBER, ("r",), WHO, seen, -1)
        for value in [value for value in VALUES if repr(value) not in ("0", "1", "2", "7")] + [31, -1, True, "3",
                                                                                               10 ** 18]:
            self.refuses(BadCount, value, many, NUMBER, ("r",), WHO, (ZERO,), value)
        for value in VALUES:
            self.refuses(BadPool, value, many, NUMBER, value, WHO, (), 3)
            self.refuses(BadAsk, value, many, NUMBER, ("r",), value, (), 3)
            if value != ():
                self.refuses(BadView, value, many, NUMBER, ("r",), WHO, value, 3)

    def test_by_the_names_of_the_document(self):
        self.same(self.takes_names(many, NUMBER, ("r",), WHO, (ZERO,), 4), ["rules", "pool", "ask", "view", "most"])


class EnoughTest(Case):

    def test_several_answers(self):
        for ask, run, told in ((BY_A, (XA,), (False, True)), (WHO, (XB, NIGHT, XB), ("a", "b")),
                               (("last", "x", "a"), (XA, NIGHT, XB), (False, True))):
            self.refuses(Unsure, told, enough, NUMBER, ("r",), ask, run)
        self.refuses(Unsure, ("", "a", "b"), enough, NOTHING, ("r",), WHO, ())
        self.refuses(Unsure, (0, 1, 2, 3), enough, NOTHING, ("r",), TIMES, (XA, NIGHT))

    def test_the_parts_that_stay(self):
        run = (XA, NIGHT, XA, NIGHT, XB, NIGHT, XA)
        self.same(view(NUMBER, ("r",), run), (ZERO, ZERO, ONE, ZERO))
        # Of hidden parts it is known that somebody did something: a "#1" alone shows that both did.
        self.same(enough(NUMBER, ("r",), BY_A, run), (2,))
        self.same(enough(NUMBER, ("r",), TIMES, run), ())
        self.same(enough(NUMBER, ("r",), ("now", "c", 0), run), ())
        self.same(enough(NUMBER, ("r",), TIMES, ()), ())
        # Each of two parts does alone; the one ahead is hidden first.
        self.same(enough(NUMBER, ("r",), BY_A, run[:5] + (NIGHT, XB)), (3,))

    def test_one_hidden_behind_the_other(self):
        # What was set last shows through what stays the same behind it, unless it is hidden, too.
        house = House("people a\ncell c 3 0\nkind k\n  worth v 3\nkind l\ndeed x\n  pick 3\n  set c it\n  row k c\n"
                      "deed y\n  row k c\nday 1")
        rules = Rules(house, "reader r\n  nights\n  kind k")
        set_two, look = ("do", "x", "a", 2), ("do", "y", "a", 0)
        self.same(enough(rules, ("r",), ("worth", "c"), (set_two, NIGHT)), (0,))
        self.same(enough(rules, ("r",), ("worth", "c"), (set_two, NIGHT, look)), (2,))
        self.same(enough(rules, ("r",), ("done", "x", None, 2), (set_two, NIGHT, look)), (2,))
        self.same(enough(rules, ("r",), ("done", "x", None, 2), (set_two, NIGHT, ("do", "x", "a", 1))), (0,))
        # There is one deed a day: when the night is hidden, too, nothing tells which part was which.
        self.same(enough(rules, ("r",), ("today", "x", None, 1), (set_two, NIGHT, NIGHT, ("do", "x", "a", 1), NIGHT)),
                  (4,))

    def test_to_whom_something_was_shown_is_hidden_too(self):
        house = House("people a b\ncell c 2 0\nkind k\nkind l\ndeed x\n  row k\ndeed y\n  row l\nday 1")
        rules = Rules(house, "reader q\n  kind k\nreader r\n  kind l\nreader s\n  kind k\n  kind l")
        x, y = ("do", "x", "a", 0), ("do", "y", "a", 0)
        done, run = ("done", "x", None, None), (x, NIGHT, y)
        self.same(enough(rules, ("q",), done, run), ())
        # Who sees rows of one kind alone knows it by any part; both together, and who sees both, by this one alone.
        for pool in (("q", "r"), ("s",), ("q", "r", "s")):
            self.same(enough(rules, pool, done, run), (0,))
            self.same(enough(rules, pool, ("often", "x", 2), run), (1,))
            self.same(enough(rules, pool, ("who", "x"), ()), ())

    def test_all_that_can_be_hidden(self):
        seen = {"unsure": 0, "enough": 0}
        for made in some(150):
            pool, ask, run = made.pool(), made.ask(), made.run(9)
            word, told = naive.enough(made.rules, pool, ask, run)
            seen[word] += 1
            if word == "unsure":
                self.refuses(Unsure, told, enough, made.rules, pool, ask, run)
            else:
                self.same(enough(made.rules, pool, ask, run), told)
        self.assertGreater(min(seen.values()), 30)

    def test_long_runs(self):
        self.same(enough(NUMBER, ("r",), BY_A, (XA, NIGHT) * 60 + (XB, NIGHT) * 2), (61,))

    def test_errors(self):
        pool, ask, run = None, ["who"], [XA]
        self.refuses(BadPool, pool, enough, NUMBER, pool, ask, run)
        self.refuses(BadAsk, ask, enough, NUMBER, ("r",), ask, run)
        self.refuses(BadRun, 0, enough, NUMBER, ("r",), WHO, run)
        self.refuses(BadRun, 2, enough, NUMBER, ("r",), WHO, (XA, XA))
        for value in VALUES:
            if not isinstance(value, tuple):
                self.refuses(BadRun, 0, enough, NUMBER, ("r",), WHO, value)
            self.refuses(BadAsk, value, enough, NUMBER, ("r",), value, (XA,))
            self.refuses(BadPool, value, enough, NUMBER, value, WHO, (XA,))

    def test_too_many_is_told_behind_all_else(self):
        rules = Rules(House(BIG), "reader r")
        self.refuses(Unsure, (False, True), enough, rules, ("r",), BIG_ASK, ())
        self.refuses(TooMany, 2000, enough, rules, ("r",), BIG_NEVER, ())
        self.refuses(BadRun, 1, enough, rules, ("r",), BIG_NEVER, (None,))
        sizes = [len(cases) for cases in answers(NUMBER, ("r",), BY_A, (ZERO, ONE))[1]]
        self.same(sizes, [1, 4, 4])
        for most in (3, 4):
            with mock.patch("givenout.counting.LIMIT", most):
                if most == 3:
                    self.refuses(TooMany, 3, enough, NUMBER, ("r",), BY_A, (XA, NIGHT, XB))
                    self.refuses(Unsure, (False, True), enough, NUMBER, ("r",), BY_A, (XA, NIGHT, XA))
                else:
                    self.same(enough(NUMBER, ("r",), BY_A, (XA, NIGHT, XB)), (1,))

    def test_by_the_names_of_the_document(self):
        self.same(self.takes_names(enough, NUMBER, ("r",), BY_A, (XA, NIGHT, XB)), ["rules", "pool", "ask", "run"])
