from unittest import mock

from givenout.changes import are_let, with_changes
from givenout.errors import BadOthers, BadPool, TooMany
from givenout.finer import finer, shows_finer
from givenout.giving import view
from givenout.houses import House
from givenout.rules import Rules
from givenout.stands import led
from tests import naive
from tests.helpers import BIG, SMALL, VALUES, Case
from tests.made import some

NIGHT = ("night",)
XA, XB = ("do", "x", "a", 0), ("do", "x", "b", 0)
HOUSE = House(SMALL)
NUMBER = Rules(HOUSE, "reader r\n  kind k\n    number w")
DAILY = Rules(HOUSE, "reader r\n  daily\n  kind k\n    number w")
BLANK = Rules(HOUSE, "reader r\n  kind k\n    blank w")
PLAIN = Rules(HOUSE, "reader r\n  kind k")
NOTHING = Rules(HOUSE, "reader r")
NONE = ((), (), (0,))
R = ("r",)


class FinerTest(Case):

    def finer(self, rules, pool, others, mates):
        """All that the mates are given is told."""
        word, table = told = finer(rules, pool, others, mates)
        self.same(word, "finer")
        self.same(table, tuple(sorted(set(table))))
        self.assertTrue(all([one <= other for one, other in table]))
        self.same(shows_finer(rules, pool, others, mates, told), True)
        return table

    def parts(self, rules, pool, others, mates, moves):
        """Two runs of so many moves in all have one view of the pool, and the mates can tell them apart."""
        word, run, other = told = finer(rules, pool, others, mates)
        self.same((word, len(run) + len(other)), ("parts", moves))
        led(rules.house, run)
        led(rules.house, other)
        self.same(view(rules, pool, run), view(rules, pool, other))
        self.assertNotEqual(view(others, mates, run), view(others, mates, other))
        self.same(shows_finer(rules, pool, others, mates, told), True)

    def test_the_example(self):
        one, other = finer(NUMBER, R, DAILY, R), finer(DAILY, R, NUMBER, R)
        self.same([one[0], other[0], len(other[1]), len(other[2])], ["finer", "parts", 3, 3])
        self.finer(NUMBER, R, DAILY, R)
        self.parts(DAILY, R, NUMBER, R, 6)

    def test_by_hand(self):
        def double(today, *numbered):
            return (((0,), today), ((numbered, (), (0,)),), (NONE,))
        first, done = double(0), double(1)
        # The mates keep no memory: their rules blank everybody.
        self.same(self.finer(BLANK, R, BLANK, R), ((first, first), (first, done), (done, done)))
        a, b, again_a, again_b = double(1, "a"), double(1, "b"), double(0, "a"), double(0, "b")
        ab, ba = double(1, "a", "b"), double(1, "b", "a")
        late_ab, late_ba = double(0, "a", "b"), double(0, "b", "a")
        self.same(self.finer(NUMBER, R, BLANK, R), tuple(sorted(
            [(first, first), (a, a), (b, b), (a, b), (again_a, a), (again_b, b), (again_a, b), (again_b, a),
             (again_a, again_a), (again_b, again_b), (again_a, again_b), (ab, ab), (ba, ba), (ab, ba),
             (late_ab, ab), (late_ab, ba), (late_ba, ab), (late_ba, ba), (late_ab, late_ab), (late_ba, late_ba),
             (late_ab, late_ba)])))

    def test_rules_beside_rules(self):
        for rules, others, moves in (
                (PLAIN, PLAIN, 0), (PLAIN, NUMBER, 0), (PLAIN, DAILY, 0), (PLAIN, BLANK, 0), (PLAIN, NOTHING, 0),
                (NUMBER, NUMBER, 0), (NUMBER, BLANK, 0), (BLANK, BLANK, 0), (BLANK, NOTHING, 0), (NOTHING, NOTHING, 0),
                (NUMBER, PLAIN, 2), (BLANK, PLAIN, 2), (BLANK, NUMBER, 6), (BLANK, DAILY, 0), (NOTHING, BLANK, 1),
                (NOTHING, PLAIN, 1), (DAILY, BLANK, 0), (DAILY, PLAIN, 2)):
            if moves == 0:
                self.finer(rules, R, others, R)
            else:
                self.parts(rules, R, others, R, moves)

    def test_where_the_pool_is_shown_nothing_of_it(self):
        nights = Rules(HOUSE, "reader r\n  nights")
        self.parts(NOTHING, R, nights, R, 1)
        self.parts(PLAIN, R, nights, R, 1)
        self.finer(Rules(HOUSE, "reader r\n  nights\n  kind k"), R, nights, R)
        # Who does it is seen alone by who it is.
        self.parts(NOTHING, R, Rules(HOUSE, "reader r\n  is b"), R, 1)
        self.finer(PLAIN, R, Rules(HOUSE, "reader r\n  is b"), R)

    def test_pools_and_mates_of_one_to_three(self):
        rules = Rules(HOUSE,
                      "reader q\n  kind k\n    only w = a\nreader r\n  kind k\n    only w = b\nreader s\n  nights")
        others = Rules(HOUSE, "reader t\n  nights\n  kind k\nreader u\n  is a\nreader v")
        self.finer(rules, ("q", "r", "s"), others, ("t", "u", "v"))
        self.finer(rules, ("q", "r", "s"), others, ("t",))
        self.finer(rules, ("q",), others, ("u", "v"))
        self.finer(others, ("t",), rules, ("q", "r", "s"))
        self.finer(others, ("u",), rules, ("q",))
        self.finer(rules, ("s",), others, ("v",))
        for pool in (("q",), ("r",), ("s",), ("q", "s"), ("r", "s"), ("q", "r")):
            self.parts(rules, pool, others, ("t", "u"), 1)
        self.parts(others, ("u", "v"), rules, ("r",), 1)
        # Others of one house that was made anew.
        self.finer(rules, ("q",), Rules(House(SMALL), others.text), ("v",))

    def test_least_sums_and_all_pairs(self):
        seen = {"parts": 0, "finer": 0}
        for made in some(160):
            changes = made.changes(made.rules.readers)
            others = Rules(made.house, "\n".join(made.rules_lines(True)))
            if changes and made.is_so(70):
                others = with_changes(made.rules, (made.one(*changes),))
            mates = made.one(*[(reader,) for reader in others.readers], others.readers)
            for args in ((made.rules, made.pool(), others, mates), (others, mates, made.rules, made.pool())):
                told = naive.finer(*args)
                seen[told[0]] += 1
                if told[0] == "parts":
                    self.parts(*args, told[1])
                else:
                    self.same(finer(*args), told)
                    self.same(shows_finer(*args, told), True)
        self.assertGreater(min(seen.values()), 50)

    def test_less_that_is_given(self):
        # For readers without numbers.
        many = 0
        for made in some(100, numbers=False):
            pool = made.pool()
            self.same(finer(made.rules, pool, made.rules, pool)[0], "finer")
            self.same(finer(made.rules, made.rules.readers, made.rules, pool)[0], "finer")
            for change in made.changes(pool):
                if change[0] in ("hide", "blank", "nights") or change[0] == "coarse" and self.is_plain(made, change):
                    others = with_changes(made.rules, (change,))
                    self.same(finer(made.rules, pool, others, pool)[0], "finer")
                    many += 1
        self.assertGreater(many, 150)

    def is_plain(self, made, change):
        """Whether the field has no line."""
        _, reader, kind, field, _ = change
        place = [name for name, _ in dict(made.house.kinds)[kind]].index(field)
        return made.rules.by_reader[reader].kinds[kind].puts[place][0] == "plain"

    def test_errors(self):
        another = Rules(House(SMALL.replace("day 1", "day 2")), "reader r")
        for function, more in ((finer, ()), (shows_finer, (None,))):
            for value in VALUES + (("q",), ("r", "r"), ["r"], "r"):
                self.refuses(BadPool, value, function, NUMBER, value, another, value, *more)
                self.refuses(BadPool, value, function, NUMBER, value, DAILY, R, *more)
                self.refuses(BadPool, value, function, NUMBER, R, DAILY, value, *more)
            for value in VALUES + (HOUSE, NUMBER.text):
                self.refuses(BadOthers, value, function, NUMBER, R, value, value, *more)
                self.refuses(BadOthers, value, function, NUMBER, R, value, R, *more)
        for function, more in ((finer, ()), (shows_finer, (None,))):
            for mates in (R, ("q",), None):
                with self.assertRaises(BadOthers) as caught:
                    function(NUMBER, R, another, mates, *more)
                self.assertIs(caught.exception.value, another)

    def test_by_the_names_of_the_document(self):
        self.same(finer(mates=R, others=DAILY, pool=R, rules=NUMBER), finer(NUMBER, R, DAILY, R))
        self.same(shows_finer(value=None, mates=R, others=DAILY, pool=R, rules=NUMBER), False)
        self.same(finer(DAILY, R, NUMBER, R), finer(DAILY, R, NUMBER, R))


class ShowsTableTest(Case):

    def setUp(self):
        self.table = finer(NUMBER, R, DAILY, R)[1]

    def shown(self, told, table):
        self.same(shows_finer(NUMBER, R, DAILY, R, ("finer", table)), told)

    def test_pairs_otherwise(self):
        table = self.table
        self.shown(True, table)
        for at, (one, other) in enumerate(table):
            ahead, behind = table[:at], table[at + 1:]
            self.shown(False, ahead + behind)
            self.shown(False, ahead + ((one, other),) * 2 + behind)
            self.shown(one == other, tuple(sorted(ahead + ((other, one),) + behind)))
            self.shown(one == other, tuple(sorted(set(table + ((other, one),)))))
            for bad in ([one, other], (one,), (one, other, other), (one, None), (None, other), (list(one), other), one,
                        (one[:2], other), (one, other + ((),))):
                self.shown(False, ahead + (bad,) + behind)
        for bad in (table[::-1], list(table), (), None, table[:1], table + table[:1]):
            self.shown(False, bad)

    def test_more_pairs(self):
        beside = naive.Beside(NUMBER, R, DAILY, R)
        # What never comes, with all that comes of it.
        more = (((1,), 0),) + beside.first[1:]
        pairs, ahead = set(), [(more, more)]
        while ahead:
            pair = ahead.pop()
            self.assertIsNotNone(pair)
            if pair not in pairs:
                pairs.add(pair)
                ahead.extend([behind for _, behind in beside.next_pairs(pair)])
        self.shown(True, tuple(sorted(set(self.table) | pairs)))
        for pair in sorted(pairs - {(more, more)})[::5]:
            self.shown(False, tuple(sorted(set(self.table) | (pairs - {pair}))))

    def test_pairs_that_the_mates_can_tell_apart(self):
        # Closed, but of rules that give the mates more: tables of the pool's pairs alone.
        nights = Rules(HOUSE, "reader r\n  nights")
        for rules, others in ((BLANK, PLAIN), (NOTHING, BLANK), (DAILY, NUMBER), (NOTHING, nights)):
            beside = naive.Beside(rules, R, others, R)
            pairs, ahead = set(), [(beside.first, beside.first)]
            while ahead:
                pair = ahead.pop()
                if pair is not None and pair not in pairs:
                    pairs.add(pair)
                    ahead.extend([behind for _, behind in beside.next_pairs(pair)])
            self.same(shows_finer(rules, R, others, R, ("finer", tuple(sorted(pairs)))), False)

    def test_of_other_rules(self):
        value = ("finer", self.table)
        for rules, others, told in ((NUMBER, DAILY, True), (DAILY, DAILY, False), (NUMBER, NUMBER, False),
                                    (NUMBER, BLANK, False), (BLANK, DAILY, False)):
            self.same(shows_finer(rules, R, others, R, value), told)

    def test_values_of_every_kind(self):
        (one, other), rest = self.table[0], self.table[1:]
        for value in VALUES:
            self.same(shows_finer(NUMBER, R, DAILY, R, value), False)
            self.same(shows_finer(NUMBER, R, DAILY, R, (value, self.table)), False)
            self.shown(False, value)
            self.shown(False, (value,) + rest)
            self.shown(False, ((value, other),) + rest)
            self.shown(False, ((one, value),) + rest)
            for bad in ((value, one[1], one[2]), (one[0], value, one[2]), (one[0], one[1], value),
                        (one[0], (value,), one[2]), (one[0], one[1], (value,)), (one[0], one[1], one[2] + (value,))):
                self.shown(False, ((bad, bad),) + rest)
        for value in (("finer",), ("finer", self.table, ()), ["finer", self.table], ("parts", self.table)):
            self.same(shows_finer(NUMBER, R, DAILY, R, value), False)
        # True is not 1.
        turned = (((0,), False),) + one[1:]
        self.shown(False, ((turned, other),) + rest)


class ShowsPartsTest(Case):

    def shown(self, told, *value):
        self.same(shows_finer(DAILY, R, NUMBER, R, value), told)

    def test_runs_that_the_mates_can_tell_apart(self):
        one, other = (XA, NIGHT, XA), (XA, NIGHT, XB)
        for run, beside, told in (
                (one, other, True), (other, one, True), ((XB, NIGHT, XB), other, True), (one + (NIGHT,), other, True),
                (one + (NIGHT, XA), other + (NIGHT, XB), True), ((NIGHT,) + one, (NIGHT, NIGHT) + other, True),
                # Like views of the mates, unlike views of the pool, no runs.
                (one, (XB, NIGHT, XB), False), (one, one, False), ((), (), False), ((XA,), other, False),
                (one, (XA, XB), False), (list(one), other, False), (one, list(other), False),
                ((XA, NIGHT, list(XA)), other, False), (one, (XA, NIGHT, ("do", "x", "b", False)), False)):
            self.shown(told, "parts", run, beside)

    def test_values_of_every_kind(self):
        one, other = (XA, NIGHT, XA), (XA, NIGHT, XB)
        for value in VALUES:
            self.shown(False, value, one, other)
            self.shown(False, "parts", value, other)
            self.shown(False, "parts", one, value)
            self.shown(value == NIGHT, "parts", one, other + (value,))
        self.shown(False, "parts", one)
        self.shown(False, "parts", one, other, ())
        self.shown(False, "finer", one, other)
        self.same(shows_finer(DAILY, R, NUMBER, R, ["parts", one, other]), False)


class TooManyTest(Case):

    RULES = Rules(House(BIG), "reader r")
    NIGHTS = Rules(House(BIG), "reader r\n  nights")

    def test_more_pairs_than_are_looked_at(self):
        self.refuses(TooMany, 2000, finer, self.RULES, R, self.RULES, R)

    def test_pairs_by_more_moves_do_not_count(self):
        word, run, other = finer(self.RULES, R, self.NIGHTS, R)
        self.same((word, len(run) + len(other)), ("parts", 1))

    def test_the_limit_itself(self):
        many = len(finer(NUMBER, R, DAILY, R)[1])
        for limit in (many - 1, many):
            with mock.patch("givenout.finer.LIMIT", limit):
                if limit < many:
                    self.refuses(TooMany, limit, finer, NUMBER, R, DAILY, R)
                else:
                    self.same(len(finer(NUMBER, R, DAILY, R)[1]), many)

    def test_the_limit_by_the_sum_of_both_runs(self):
        # Ahead of the two runs of six moves in all: all pairs by up to five.
        pairs, ahead = {}, [(0, (naive.Beside(DAILY, R, NUMBER, R).first,) * 2)]
        while ahead:
            ahead = sorted(ahead, reverse=True)
            length, pair = ahead.pop()
            if length <= 5 and pair not in pairs:
                pairs[pair] = length
                ahead += [(length + more, behind) for more, behind
                          in naive.Beside(DAILY, R, NUMBER, R).next_pairs(pair) if behind is not None]
        for limit in (len(pairs) - 1, len(pairs)):
            with mock.patch("givenout.finer.LIMIT", limit):
                if limit < len(pairs):
                    self.refuses(TooMany, limit, finer, DAILY, R, NUMBER, R)
                else:
                    self.same(len(finer(DAILY, R, NUMBER, R)[1]), 3)

    def test_behind_all_other_errors(self):
        self.refuses(BadPool, ("q",), finer, self.RULES, ("q",), self.RULES, R)
        self.refuses(BadPool, ("q",), finer, self.RULES, R, self.RULES, ("q",))
        self.refuses(BadOthers, None, finer, self.RULES, R, None, R)
        self.refuses(BadPool, "q", shows_finer, self.RULES, "q", self.RULES, R, None)
