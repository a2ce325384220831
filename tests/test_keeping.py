from unittest import mock

from givenout import keeping, lores as lores_module, members as members_module
from givenout.asks import answer
from givenout.cases import first_case
from givenout.errors import BadPool, BadSecrets, TooMany
from givenout.giving import view
from givenout.houses import House
from givenout.keeping import kept, shows_kept
from givenout.knowing import answers
from givenout.rules import Rules
from givenout.stands import led
from tests import naive
from tests.helpers import BIG, BIG_ASK, BIG_NEVER, SMALL, VALUES, Case
from tests.made import some

NIGHT = ("night",)
XA, XB = ("do", "x", "a", 0), ("do", "x", "b", 0)
HOUSE = House(SMALL)
NUMBER = Rules(HOUSE, "reader r\n  kind k\n    number w")
DAILY = Rules(HOUSE, "reader r\n  daily\n  kind k\n    number w")
NOTHING = Rules(HOUSE, "reader r")
BY_A, BY_B, LAST_A = ("done", "x", "a", None), ("done", "x", "b", None), ("last", "x", "a")
SOMEBODY = ("done", "x", None, None)
ALWAYS, NEVER = ("or", BY_A, ("not", BY_A)), ("and", BY_A, ("not", BY_A))
NONE = ((), (), (0,))

BAD_SECRETS = ((), [], [(BY_A, "yes")], ((BY_A, "yes"),) * 4, ((BY_A,),), ((BY_A, "yes", 0),), (BY_A, "yes"),
               ((BY_A, ""),),
               ([BY_A, "yes"],), ((BY_A, "Yes"),), ((BY_A, True),), ((BY_A, None),), ((BY_A, ["yes"]),),
               ((BY_A, "if"),),
               ((("who", "x"), "yes"),), ((("worth", "c"), "no"),), ((("times", "x", 1), "whether"),), ((None, "yes"),),
               ((list(BY_A), "yes"),), ((("done", "x", "c", None), "yes"),), ((BY_A, "yes"), (BY_A, "maybe")),
               ((("not", ("not", ("not", ("not", BY_A)))), "no"),), ((BY_A, "yes"), None), "yes", {"yes": BY_A})


class OutTest(Case):

    def out(self, rules, pool, secrets, length, number):
        """The secret of this number is out, by a run so long; what is told shows it."""
        told = kept(rules, pool, secrets)
        word, run, at, lores = told
        self.same((word, len(run), at), ("out", length, number))
        led(rules.house, run)
        asks = tuple(formula for formula, _ in secrets)
        rows = naive.Naive(rules, pool, asks).lores(view(rules, pool, run))
        self.same(lores, tuple(tuple(sorted(row)) for row in rows))
        self.same(shows_kept(rules, pool, secrets, told), True)
        return told

    def test_the_example(self):
        secrets = ((BY_A, "yes"),)
        one, other = kept(NUMBER, ("r",), secrets), kept(DAILY, ("r",), secrets)
        self.same([one[0], len(one[1]), one[2], [len(lore) for lore in one[3]], other[0],
                   [len(lore) for lore in other[1]], len(other[2])],
                  ["out", 3, 0, [1, 4, 4], "kept", [1, 4, 5], 10])
        self.out(NUMBER, ("r",), secrets, 3, 0)

    def test_what_is_out_at_once(self):
        for secret in ((ALWAYS, "yes"), (ALWAYS, "whether"), (NEVER, "no"), (NEVER, "whether"),
                       (("now", "c", 0), "yes")):
            self.out(NUMBER, ("r",), (secret,), 0, 0)
            self.out(NUMBER, ("r",), ((BY_A, "yes"), secret, secret), 0, 1)
        # At first it is known that it was not done, if all that is done is seen.
        for rules in (NUMBER, DAILY):
            self.out(rules, ("r",), ((BY_A, "no"),), 0, 0)
            self.out(rules, ("r",), ((BY_A, "whether"),), 0, 0)
        self.same(kept(NOTHING, ("r",), ((NEVER, "yes"), (ALWAYS, "no"), (BY_A, "yes")))[0], "kept")

    def test_the_words(self):
        # A reader who is a sees what a does, and nothing else.
        rules = Rules(HOUSE, "reader r\n  is a")
        self.out(rules, ("r",), ((BY_A, "yes"),), 1, 0)
        self.out(rules, ("r",), ((BY_A, "no"),), 0, 0)
        self.out(rules, ("r",), ((LAST_A, "whether"),), 0, 0)
        for word in ("yes", "no", "whether"):
            self.same(kept(rules, ("r",), ((BY_B, word),))[0], "kept")
            self.same(kept(NOTHING, ("r",), ((BY_A, word),))[0], "kept")
        self.same(kept(DAILY, ("r",), ((BY_A, "yes"),))[0], "kept")
        # Behind each row somebody did it; until the night nobody else can have.
        for word, length in (("yes", 1), ("no", 0), ("whether", 0)):
            self.out(DAILY, ("r",), ((SOMEBODY, word),), length, 0)

    def test_the_first_secret_that_is_out_there(self):
        for secrets, length, number in (
                (((BY_A, "yes"), (BY_B, "yes")), 3, 0), (((LAST_A, "yes"), (BY_B, "yes")), 3, 1),
                (((LAST_A, "yes"), (BY_A, "yes"), (SOMEBODY, "yes")), 1, 2),
                (((SOMEBODY, "no"), (BY_A, "no"), (SOMEBODY, "yes")), 0, 0), (((BY_A, "yes"), (BY_A, "no")), 0, 1),
                (((BY_A, "yes"), (BY_A, "yes")), 3, 0)):
            self.out(NUMBER, ("r",), secrets, length, number)

    def test_pools_of_two(self):
        rules = Rules(HOUSE, "reader q\n  kind k\n    only w = a\n    blank w\nreader r\n  kind k\n    blank w")
        secret = ((BY_B, "yes"),)
        for reader in ("q", "r"):
            self.same(kept(rules, (reader,), secret)[0], "kept")
        self.out(rules, ("q", "r"), secret, 1, 0)
        self.out(rules, ("q",), ((BY_A, "yes"),), 1, 0)

    def test_fewest_moves_and_nothing_else(self):
        seen = {"out": 0, "kept": 0}
        for made in some(150):
            pool, secrets = made.pool(), made.secrets()
            told = naive.kept(made.rules, pool, secrets)
            seen[told[0]] += 1
            if told[0] == "kept":
                self.same(kept(made.rules, pool, secrets), told)
                self.same(shows_kept(made.rules, pool, secrets, told), True)
            else:
                run = kept(made.rules, pool, secrets)[1]
                asks = tuple(formula for formula, _ in secrets)
                lore = naive.Naive(made.rules, pool, asks).lores(view(made.rules, pool, run))[-1]
                number = naive.Naive(made.rules, pool, asks).out(lore, [word for _, word in secrets])[0]
                self.out(made.rules, pool, secrets, told[1], number)
        self.assertGreater(min(seen.values()), 30)

    def test_what_is_kept_is_known_behind_no_run(self):
        for made in some(60):
            pool, secrets = made.pool(), made.secrets()
            if kept(made.rules, pool, secrets)[0] == "kept":
                for run in [made.run(8) for _ in range(5)]:
                    for formula, word in secrets:
                        known = [given for given, _ in answers(made.rules, pool, formula,
                                                               view(made.rules, pool, run))[0]]
                        self.assertNotIn((known, word), (([True], "yes"), ([False], "no"), ([True], "whether"),
                                                         ([False], "whether")))

    def test_the_reasoning_holds_for_all_runs_with_the_view(self):
        for made in some(60):
            pool, secrets = made.pool(), made.secrets()
            told = kept(made.rules, pool, secrets)
            if told[0] == "out":
                formula, seen = secrets[told[2]][0], view(made.rules, pool, told[1])
                given = answer(made.house, told[1], formula)
                self.same([other for other, _ in answers(made.rules, pool, formula, seen)[0]], [given])

    def test_errors(self):
        pool, secrets = ["r"], [(BY_A, "yes")]
        for function, more in ((kept, ()), (shows_kept, (None,))):
            self.refuses(BadPool, pool, function, NUMBER, pool, secrets, *more)
            self.refuses(BadPool, pool, function, NUMBER, pool, ((BY_A, "yes"),), *more)
            for value in VALUES + BAD_SECRETS:
                with self.subTest(value=value):
                    self.refuses(BadSecrets, value, function, NUMBER, ("r",), value, *more)
            for value in VALUES:
                self.refuses(BadPool, value, function, NUMBER, value, ((BY_A, "yes"),), *more)
                self.refuses(BadPool, value, function, NUMBER, value, None, *more)

    def test_by_the_names_of_the_document(self):
        self.same(self.takes_names(kept, NUMBER, ("r",), ((BY_A, "yes"),)), ["rules", "pool", "secrets"])
        self.same(self.takes_names(kept, DAILY, ("r",), ((BY_A, "yes"),)), ["rules", "pool", "secrets"])
        self.same(self.takes_names(shows_kept, NUMBER, ("r",), ((BY_A, "yes"),), None),
                  ["rules", "pool", "secrets", "value"])


class ShowsOutTest(Case):

    SECRETS = ((BY_A, "yes"), (BY_B, "whether"), (LAST_A, "yes"))
    RUN = (XA, NIGHT, XB)

    def setUp(self):
        # The second one is out at once; this is shown behind a longer run.
        asks = tuple(formula for formula, _ in self.SECRETS)
        rows = naive.Naive(NUMBER, ("r",), asks).lores(view(NUMBER, ("r",), self.RUN))
        self.lores = tuple(tuple(sorted(row)) for row in rows)

    def shown(self, told, *value):
        self.same(shows_kept(NUMBER, ("r",), self.SECRETS, value), told)

    def test_any_run_and_any_secret_that_is_out_there(self):
        for number, told in ((0, True), (1, True), (2, False), (3, False), (-1, False), (True, False), (False, False),
                             (None, False), ("0", False), ((0,), False)):
            self.shown(told, "out", self.RUN, number, self.lores)
        for run in ((XB, NIGHT, XA), (NIGHT, NIGHT, XB, NIGHT, NIGHT, XA, NIGHT)):
            self.shown(True, "out", run, 0, self.lores)
        for run in ((XA, NIGHT, XA), (XA, NIGHT), (XA, XB), (), list(self.RUN), None, self.RUN + (NIGHT, XA), XA,
                    (list(XA), NIGHT, XB), (XA, NIGHT, ("do", "x", "b", False))):
            self.shown(False, "out", run, 0, self.lores)
        self.shown(True, "out", (), 1, self.lores[:1])
        self.shown(False, "out", (), 0, self.lores[:1])
        self.shown(False, "out", (XA,), 0, self.lores[:2])

    def test_lores_with_more(self):
        # Someone numbered by nothing, by whom all this was done; and one who did nothing, so that no secret is out.
        def both(*notes):
            return tuple([(((0,), today), ((("b",), (), (0,)),), notes) for today in (0, 1)])
        last = self.lores[-1]
        for more, told in ((both((True,), (True,), ("a",)), [True, True]),
                           (both((True,), (False,), ("a",)), [True, False]),
                           (both((False,), (True,), ("",)), [False, True]),
                           (both((True,), (True,), ("a",))[1:], [False] * 2)):
            lores = self.lores[:-1] + (tuple(sorted(last + more)),)
            for number in (0, 1):
                self.shown(told[number], "out", self.RUN, number, lores)

    def test_lores_spoilt(self):
        for at, row in enumerate(self.lores):
            for bad in [row[:place] + row[place + 1:] for place in range(len(row))] + [list(row), row + row[-1:], None,
                                                                                       row[0]]:
                self.shown(False, "out", self.RUN, 0, self.lores[:at] + (bad,) + self.lores[at + 1:])
            if len(row) > 1:
                self.shown(False, "out", self.RUN, 0, self.lores[:at] + (row[::-1],) + self.lores[at + 1:])
        for bad in (self.lores[:-1], self.lores[1:], self.lores + self.lores[-1:], list(self.lores), (),
                    self.lores[::-1]):
            self.shown(False, "out", self.RUN, 0, bad)

    def test_values_of_every_kind(self):
        for value in VALUES:
            self.same(shows_kept(NUMBER, ("r",), self.SECRETS, value), False)
            self.shown(False, value, self.RUN, 0, self.lores)
            self.shown(False, "out", value, 0, self.lores)
            self.shown(repr(value) in ("0", "1"), "out", self.RUN, value, self.lores)
            self.shown(False, "out", self.RUN, 0, value)
            self.shown(False, "out", self.RUN, 0, (value,) + self.lores[1:])
            self.shown(False, "out", self.RUN, 0, self.lores[:-1] + ((value,),))
        self.shown(False, "out", self.RUN, 0)
        self.shown(False, "out", self.RUN, 0, self.lores, ())
        self.shown(False, "kept", self.RUN, 0, self.lores)
        self.same(shows_kept(NUMBER, ("r",), self.SECRETS, ["out", self.RUN, 0, self.lores]), False)


class ShowsKeptTest(Case):

    SECRETS = ((BY_A, "yes"),)

    def setUp(self):
        _, self.lores, self.members = kept(DAILY, ("r",), self.SECRETS)

    def shown(self, told, *value):
        self.same(shows_kept(DAILY, ("r",), self.SECRETS, value), told)

    def sorted_table(self, told, lores, members):
        """As shown, of lores and (case, lore) in any sequence."""
        rows = sorted(set(lores))
        self.shown(told, "kept", tuple(rows), tuple(sorted({(case, rows.index(lore)) for case, lore in members})))

    def pairs(self):
        return [(case, self.lores[number]) for case, number in self.members]

    def test_what_kept_tells(self):
        self.shown(True, "kept", self.lores, self.members)
        first = first_case(DAILY, ("r",), (BY_A,))
        self.same([case for case, number in self.members if self.lores[number] == (first,)], [first])

    def test_members_left_out(self):
        # One with the same case and a lore that has less does as well; any other one is missed.
        told = []
        for at, (case, number) in enumerate(self.members):
            rest = self.members[:at] + self.members[at + 1:]
            told.append(any([other == case and set(self.lores[less]) < set(self.lores[number]) for other,
                             less in rest]))
            self.shown(told[-1], "kept", self.lores, rest)
        self.same(told, [False, True, True, False, True, False, True, False, True, False])
        self.shown(False, "kept", self.lores, ())

    def test_lores_cut_down(self):
        # A case by which the secret does not hold is enough, if it can always be there.
        first = first_case(DAILY, ("r",), (BY_A,))
        night_b = first[:2] + ((False,),)
        by_b = (((0,), 1), ((("b",), (), (0,)),), ((False,),))
        cut = {lore: lore if lore == (first,) else tuple([case for case in lore if case in (night_b, by_b)])
               for lore in self.lores}
        self.assertTrue(all(cut.values()))
        members = [(case, cut[lore]) for case, lore in self.pairs()]
        self.sorted_table(True, list(cut.values()), members)
        # Nor is the member's own case needed, nor that all lores have a member.
        self.assertTrue(any([case not in lore for case, lore in members]))
        self.sorted_table(True, list(cut.values()) + list(self.lores), members)

    def test_lores_that_tell_too_much(self):
        first = first_case(DAILY, ("r",), (BY_A,))
        by_a = (((0,), 1), ((("a",), (), (0,)),), ((True,),))
        # The secret is out in one of them, which no member has.
        self.sorted_table(False, self.lores + ((by_a,),), self.pairs())
        # What cannot be yet, and what cannot be at all.
        later = (((0,), 1), ((("b",), (), (0,)),), ((False,),))
        other = (((1,), 0),) + first[1:]
        for more in (later, other):
            spoilt = [tuple(sorted(lore + (more,))) if lore == (first,) else lore for lore in self.lores]
            swap = dict(zip(self.lores, spoilt))
            self.sorted_table(False, spoilt, [(case, swap[lore]) for case, lore in self.pairs()])
            self.sorted_table(True, list(self.lores) + spoilt, self.pairs())
        for lore in self.lores:
            if lore != (first,):
                swap = {row: tuple(sorted(row + (other,))) if row == lore else row for row in self.lores}
                self.sorted_table(False, list(swap.values()), [(case, swap[row]) for case, row in self.pairs()])

    def test_more_members(self):
        # A member that never comes, with what comes of it.
        case = (((1,), 0), (NONE,), ((False,),))
        table = naive.Naive(DAILY, ("r",), (BY_A,))
        table.first = case
        more = [(at, tuple(sorted(lore))) for level in table.levels() for at, lore in level]
        rows = sorted(set(self.lores) | {lore for _, lore in more})
        self.sorted_table(True, rows, self.pairs() + more)
        self.sorted_table(False, rows, self.pairs() + more[:1])
        self.sorted_table(False, rows, more)

    def test_forms_spoilt(self):
        case, number = self.members[0]
        rest = self.members[1:]
        for bad in ((case, True), (case, False), (case, -1), (case, len(self.lores)), (case, None), (case, str(number)),
                    [case, number], (case,), (case, number, 0), (list(case), number), (None, number)):
            self.shown(False, "kept", self.lores, (bad,) + rest)
        for bad in (list(self.members), self.members[::-1], self.members + self.members[-1:], None,
                    self.members[:1] * 2):
            self.shown(False, "kept", self.lores, bad)
        for bad in (list(self.lores), self.lores[::-1], self.lores[:-1], self.lores[1:], self.lores + self.lores[-1:],
                    self.lores + ((),), ((),) + self.lores, None, (), self.lores[:-1] + (list(self.lores[-1]),),
                    self.lores[:-1] + (self.lores[-1][::-1],), self.lores[:-1] + (self.lores[-1] * 2,)):
            self.shown(False, "kept", bad, self.members)

    def test_values_of_every_kind_at_any_depth(self):
        (stand, memories, notes), number = self.members[0]
        rest, rows = self.members[1:], self.lores[:-1]
        for value in VALUES:
            self.shown(False, value, self.lores, self.members)
            self.shown(False, "kept", value, self.members)
            self.shown(False, "kept", self.lores, value)
            self.shown(False, "kept", self.lores, (value,) + rest)
            self.shown(False, "kept", (value,) + self.lores[1:], self.members)
            self.shown(False, "kept", rows + ((value,),), self.members)
            for bad in ((value, memories, notes), (stand, value, notes), (stand, memories, value),
                        ((value, 0), memories, notes), (stand, (value,), notes), (stand, memories, (value,)),
                        (stand, ((value, (), (0,)),), notes) if value not in ((), ("a",)) else None,
                        (stand, (((), value, (0,)),), notes) if value != () else None,
                        (stand, (((), (), value),), notes), (stand, memories,
                                                             ((value,),)) if value is not False else None,
                        (((value,), 0), memories, notes) if repr(value) != "0" else None):
                self.shown(False, "kept", self.lores, ((bad, number),) + rest)
                self.shown(False, "kept", rows + ((bad,),), self.members)
        for value in ((self.lores, self.members), ("kept", self.lores), ("kept", self.lores, self.members, ()),
                      ["kept", self.lores, self.members], ("out", self.lores, self.members)):
            self.same(shows_kept(DAILY, ("r",), self.SECRETS, value), False)

    def test_of_other_rules_or_secrets(self):
        value = ("kept", self.lores, self.members)
        for rules, secrets, told in ((DAILY, self.SECRETS, True), (NUMBER, self.SECRETS, False),
                                     (NOTHING, self.SECRETS, False),
                                     (DAILY, ((BY_A, "no"),), False), (DAILY, ((BY_A, "whether"),), False),
                                     (DAILY, ((BY_B, "yes"),), False), (DAILY, self.SECRETS * 2, False),
                                     (DAILY, ((LAST_A, "yes"),), False)):
            self.same(shows_kept(rules, ("r",), secrets, value), told)


class TooManyTest(Case):

    NOTHING = Rules(House(BIG), "reader r")
    ALL = Rules(House(BIG), "reader r\n  is a\n  nights")

    def test_too_many_members(self):
        self.refuses(TooMany, 2000, kept, self.ALL, ("r",), ((BIG_NEVER, "yes"),))

    def test_too_many_cases_in_a_lore(self):
        self.refuses(TooMany, 2000, kept, self.NOTHING, ("r",), ((BIG_NEVER, "yes"),))
        self.refuses(TooMany, 2000, kept, self.NOTHING, ("r",), ((BIG_ASK, "whether"),))

    def test_what_is_out_at_once_is_told_all_the_same(self):
        for secrets, number in ((((BIG_NEVER, "no"),), 0), (((BIG_ASK, "yes"), (BIG_NEVER, "whether")), 1)):
            word, run, at, lores = kept(self.NOTHING, ("r",), secrets)
            self.same((word, run, at, len(lores)), ("out", (), number, 1))
            self.assertGreater(len(lores[0]), 2000)

    def test_members_behind_longer_runs_do_not_count(self):
        x = ("often", "x", 2)
        word, run, number, lores = kept(self.ALL, ("r",), ((BIG_NEVER, "yes"), (x, "yes")))
        self.same((word, len(run), number, len(lores)), ("out", 2, 1, 3))
        # More come by runs that are shorter than the one by which this is out.
        late = ("and", ("often", "x", 3), ("and", ("often", "y", 3), ("often", "z", 3)))
        self.refuses(TooMany, 2000, kept, self.ALL, ("r",), ((late, "yes"),))

    def test_a_great_lore_at_the_end_is_told(self):
        # All is unseen but the rows; there are many cases behind the first one, in which all agree.
        house = House(BIG.replace("deed x",
                                  "kind k\ndeed w\n  row k\ndeed x").replace("deed z\n  pick 4\n  set e it\n", ""))
        rules = Rules(house, "reader r\n  kind k")
        secrets = ((("done", "w", None, None), "yes"), (("and", ("often", "x", 3), ("often", "y", 3)), "yes"))
        word, run, number, lores = kept(rules, ("r",), secrets)
        self.same((word, run, number), ("out", (("do", "w", "a", 0),), 0))
        most = max([len(lore) for lore in lores])
        for limit in (len(lores[0]) - 1, len(lores[0]), most):
            with mock.patch.object(lores_module, "LIMIT", limit), mock.patch.object(keeping, "LIMIT", limit):
                if limit < len(lores[0]):
                    self.refuses(TooMany, limit, kept, rules, ("r",), secrets)
                else:
                    self.same(kept(rules, ("r",), secrets), (word, run, number, lores))
        self.assertGreaterEqual(len(lores[1]), len(lores[0]))

    def test_the_limit_itself(self):
        _, lores, members = kept(DAILY, ("r",), ((BY_A, "yes"),))
        for limit in (len(members) - 1, len(members)):
            with mock.patch.object(members_module, "LIMIT", limit):
                if limit < len(members):
                    self.refuses(TooMany, limit, kept, DAILY, ("r",), ((BY_A, "yes"),))
                else:
                    self.same(kept(DAILY, ("r",), ((BY_A, "yes"),)), ("kept", lores, members))
        most = max([len(lore) for lore in lores])
        for limit in (most - 1, most):
            with mock.patch.object(lores_module, "LIMIT", limit), mock.patch.object(keeping, "LIMIT", limit):
                if limit < most:
                    self.refuses(TooMany, limit, kept, DAILY, ("r",), ((BY_A, "yes"),))
                else:
                    self.same(kept(DAILY, ("r",), ((BY_A, "yes"),)), ("kept", lores, members))

    def test_members_of_shorter_runs_alone(self):
        # Just those by runs of fewer moves than the told one count.
        levels = list(naive.Naive(NUMBER, ("r",), (BY_A,)).levels())
        few = sum([len(level) for level in levels[:3]])
        for limit in (few - 1, few):
            with mock.patch.object(members_module, "LIMIT", limit):
                if limit < few:
                    self.refuses(TooMany, limit, kept, NUMBER, ("r",), ((BY_A, "yes"),))
                else:
                    self.same(len(kept(NUMBER, ("r",), ((BY_A, "yes"),))[1]), 3)

    def test_behind_all_other_errors(self):
        secrets = ((BIG_NEVER, "yes"), (BIG_NEVER, "never"))
        self.refuses(BadSecrets, secrets, kept, self.ALL, ("r",), secrets)
        self.refuses(BadPool, "r", kept, self.ALL, "r", secrets)
        self.refuses(BadSecrets, secrets, shows_kept, self.ALL, ("r",), secrets, None)
