from itertools import combinations
from unittest import mock

from givenout.asks import answer
from givenout.changes import are_let, with_changes
from givenout.cheapest import cheapest, shows_cheapest
from givenout.errors import BadNeeds, BadOffers, BadSecrets, TooMany
from givenout.giving import view
from givenout.houses import House
from givenout.keeping import kept
from givenout.needing import needed
from givenout.rules import Rules
from tests.helpers import BIG, BIG_NEVER, SMALL, VALUES, Case
from tests.made import some
from tests.naive import Naive

NIGHT = ("night",)
XA, XB = ("do", "x", "a", 0), ("do", "x", "b", 0)
HOUSE = House(SMALL)
RULES = Rules(HOUSE, "reader q\n  nights\nreader r\n  kind k\n    number w")
BY_A, BY_B, SOMEBODY = ("done", "x", "a", None), ("done", "x", "b", None), ("done", "x", None, None)
BLANK, DAILY, HIDE = ("blank", "r", "k", "w"), ("daily", "r"), ("hide", "r", "k")
SECRETS = ((("r",), BY_A, "yes"),)
NEEDS = ((("r",), SOMEBODY),)
OFFERS = ((BLANK, 3), (DAILY, 2), (HIDE, 2))

BAD_SECRETS = ((), SECRETS * 4, list(SECRETS), SECRETS[0], ((("r",), BY_A),), ((("r",), BY_A, "yes", 0),),
               ((BY_A, "yes"),),
               ((["r"], BY_A, "yes"),), ((("r", "q"), BY_A, "yes"),), (((), BY_A, "yes"),), ((("s",), BY_A, "yes"),),
               ((("r",), ("who", "x"), "yes"),), ((("r",), list(BY_A), "yes"),), ((("r",), BY_A, "Yes"),),
               ((("r",), BY_A, None),), ((("r",), BY_A, ["yes"]),), (list(SECRETS[0]),), SECRETS + (None,),
               ("r", BY_A, "yes"))
BAD_NEEDS = (NEEDS * 3, list(NEEDS), NEEDS[0], ((("r",),),), ((("r",), SOMEBODY, 0),), ((["r"], SOMEBODY),),
             ((("r", "q"), SOMEBODY),), (((), SOMEBODY),), ((("r",), ("who", "y")),), ((("r",), None),),
             (list(NEEDS[0]),),
             (SOMEBODY,), NEEDS + (None,), None)
BAD_OFFERS = ((), list(OFFERS), OFFERS[::-1], OFFERS[:1] * 2, OFFERS[0], ((BLANK,),), ((BLANK, 3, 0),), ((BLANK, 0),),
              ((BLANK, 10),), ((BLANK, True),), ((BLANK, "3"),), ((BLANK, None),), ((BLANK, -1),), (([BLANK], 3),),
              ((list(BLANK), 3),), ([BLANK, 3],), ((BLANK, 3), (BLANK, 4)), ((BLANK, 3), None), ((3, BLANK),), (BLANK,),
              ((("blank", "q", "k", "w"), 1),), ((("number", "r", "k", "w"), 1),), ((("nights", "r"), 1),),
              ((None, 1),),
              ((("nights", "q"), 1), (("nights", "r"), 1)), ((("blank", "r", "k", "v"), 1),),
              ((("open", "r", "k"), 1),),
              ((BLANK, 1), (("counted", "r", "k", 1), 1), (("counted", "r", "k", 2), 1), (("counted", "r", "k", 3), 1),
               (DAILY, 1), (HIDE, 1)))


def choices_of(rules, offers):
    """All (price, choice), in sequence."""
    told = []
    for many in range(len(offers) + 1):
        for some_offers in combinations(offers, many):
            choice = tuple([change for change, _ in some_offers])
            if are_let(rules, choice):
                told.append((sum([price for _, price in some_offers]), choice))
    return sorted(told)


class CheapestTest(Case):

    def check(self, rules, secrets, needs, offers):
        """What is told is just what comes of each choice, looked at by itself."""
        told = cheapest(rules, secrets, needs, offers)
        reasons = told[-1]
        choices = choices_of(rules, offers)
        self.same([reason[0] for reason in reasons], [choice for _, choice in choices[:len(reasons)]])
        for choice, word, number, run, last in reasons:
            behind = with_changes(rules, choice)
            outs = [kept(behind, pool, ((formula, secret),)) for pool, formula, secret in secrets]
            opens = [needed(behind, pool, ask) for pool, ask in needs]
            ends = [("out", at, one[1], one[3]) for at, one in enumerate(outs) if one[0] == "out"]
            ends += [("open", at) + one[1:] for at, one in enumerate(opens) if one[0] == "open"]
            self.same((word, number, run, last), ends[0])
        if told[0] == "none":
            self.same((len(told), len(reasons)), (2, len(choices)))
        else:
            word, price, choice, tables, sheets, _ = told
            self.same((word, price, choice), ("choice",) + choices[len(reasons)])
            behind = with_changes(rules, choice)
            self.same(tables, tuple(kept(behind, pool, ((formula, secret),))[1:] for pool, formula, secret in secrets))
            self.same(sheets, tuple(needed(behind, pool, ask)[1] for pool, ask in needs))
        self.same(shows_cheapest(rules, secrets, needs, offers, told), True)
        return told

    def test_the_example(self):
        rules = Rules(HOUSE, "reader r\n  kind k\n    number w")
        found = cheapest(rules, SECRETS, NEEDS, OFFERS)
        self.same([found[:3], [len(part) for part in found[3:]], found[5][0][:3], len(found[5][0][3])],
                  [("choice", 2, (DAILY,)), [1, 1, 1], ((), "out", 0), 3])

    def test_nothing_is_to_be_changed(self):
        told = self.check(RULES, ((("r",), BY_A, "no"),), (), OFFERS[1:2])
        self.same((told[0], len(told[1])), ("none", 2))
        word, price, choice, tables, sheets, reasons = self.check(RULES, ((("q",), BY_A, "whether"),), NEEDS, OFFERS)
        self.same((word, price, choice, len(tables), len(sheets), reasons), ("choice", 0, (), 1, 1, ()))

    def test_the_sequence_of_choices(self):
        # Of one price those stand first that are first as tuples; daily alone is not enough for what is asked here.
        told = self.check(RULES, ((("r",), SOMEBODY, "yes"),), (), OFFERS)
        self.same((told[1:3], [reason[0] for reason in told[5]]), ((2, (HIDE,)), [(), (DAILY,)]))
        told = self.check(RULES, ((("r",), SOMEBODY, "yes"),), (), ((BLANK, 1), (DAILY, 1), (HIDE, 3)))
        self.same((told[1:3], [reason[0] for reason in told[5]]),
                  ((3, (HIDE,)), [(), (BLANK,), (DAILY,), (BLANK, DAILY)]))
        told = self.check(RULES, ((("r",), SOMEBODY, "yes"),), (), ((BLANK, 9), (DAILY, 9)))
        self.same((told[0], [reason[0] for reason in told[1]]), ("none", [(), (BLANK,), (DAILY,), (BLANK, DAILY)]))
        # Hide is not let beside blank.
        told = self.check(RULES, ((("q",), ("now", "c", 0), "yes"),), (), OFFERS)
        self.same([reason[0] for reason in told[1]], [(), (DAILY,), (HIDE,), (BLANK,), (DAILY, HIDE), (BLANK, DAILY)])

    def test_secrets_are_kept_each_by_itself(self):
        # Two deeds a day: daily numbers tell who did both of them, or that both people did one.
        rules = Rules(House(SMALL.replace("day 1", "day 2")), RULES.text)
        secrets = ((("r",), BY_A, "yes"), (("q",), SOMEBODY, "whether"), (("q", "r"), BY_B, "yes"))
        told = self.check(rules, secrets, NEEDS, OFFERS)
        self.same((told[1:3], [reason[:3] for reason in told[5]]),
                  ((3, (BLANK,)), [((), "out", 0), ((DAILY,), "out", 0), ((HIDE,), "open", 0)]))
        self.same((len(told[3]), len(told[4])), (3, 1))
        told = self.check(rules, secrets[1:], NEEDS, OFFERS)
        self.same((told[1:3], [reason[:3] for reason in told[5]]),
                  ((3, (BLANK,)), [((), "out", 1), ((DAILY,), "out", 1), ((HIDE,), "open", 0)]))
        self.same(self.check(rules, secrets[1:2], NEEDS, OFFERS)[:3], ("choice", 0, ()))

    def test_needs_that_are_not_met(self):
        needs = ((("r",), SOMEBODY), (("q",), SOMEBODY))
        told = self.check(RULES, ((("q",), BY_A, "yes"),), needs, OFFERS)
        self.same((told[0], {reason[1] for reason in told[1]}, [reason[2] for reason in told[1]]),
                  ("none", {"open"}, [1, 1, 0, 1, 0, 1]))
        told = self.check(RULES, SECRETS, needs[:1] + ((("q", "r"), SOMEBODY),), OFFERS)
        self.same((told[1:3], len(told[4])), ((2, (DAILY,)), 2))
        for ask in (("who", "x"), ("times", "x", 1), ("worth", "c")):
            self.check(RULES, SECRETS, ((("r",), ask),), OFFERS)

    def test_five_offers_and_made_houses(self):
        seen = {"choice": 0, "none": 0}
        for made in some(280):
            offers = self.offers(made)
            if offers:
                pools = [(reader,) for reader in made.rules.readers] + [made.rules.readers]
                secrets = tuple((made.one(*pools), made.formula(), made.one("yes", "no", "whether"))
                                for _ in range(made.one(1, 1, 2, 3)))
                needs = tuple((made.one(*pools), made.ask()) for _ in range(made.one(0, 0, 1, 2)))
                try:
                    told = self.check(made.rules, secrets, needs, offers)
                except TooMany:
                    continue
                seen[told[0]] += told[0] == "none" or len(told[5]) > 0
        self.assertGreater(min(seen.values()), 5)

    def offers(self, made):
        """One to five offers that these rules let, none if there are none."""
        changes = []
        for reader in made.rules.readers:
            changes += [("daily", reader), ("nights", reader)]
            for kind, fields in made.house.kinds:
                changes += [("hide", reader, kind), ("nightly", reader, kind), ("counted", reader, kind, 2)]
                for field, _ in fields:
                    changes += [("blank", reader, kind, field), ("number", reader, kind, field),
                                ("coarse", reader, kind, field, 2)]
        changes = [change for change in changes if are_let(made.rules, (change,))]
        made.chance.shuffle(changes)
        return tuple(sorted([(change, made.chance.randrange(1, 10)) for change in changes[:made.one(1, 2, 3, 5)]]))

    def test_errors(self):
        for function, more in ((cheapest, ()), (shows_cheapest, (None,))):
            for value in BAD_SECRETS + VALUES:
                self.refuses(BadSecrets, value, function, RULES, value, NEEDS, OFFERS, *more)
                self.refuses(BadSecrets, value, function, RULES, value, None, None, *more)
            for value in BAD_NEEDS + VALUES:
                if value != ():
                    self.refuses(BadNeeds, value, function, RULES, SECRETS, value, OFFERS, *more)
                    self.refuses(BadNeeds, value, function, RULES, SECRETS, value, None, *more)
            for value in BAD_OFFERS + VALUES:
                with self.subTest(value=value):
                    self.refuses(BadOffers, value, function, RULES, SECRETS, NEEDS, value, *more)
        for offers in (OFFERS, OFFERS[:1], ((BLANK, 1), (("counted", "r", "k", 1), 9), (("counted", "r", "k", 2), 9),
                                            (DAILY, 1), (HIDE, 1))):
            self.same(cheapest(RULES, ((("q",), BY_A, "yes"),), (), offers)[:3], ("choice", 0, ()))

    def test_by_the_names_of_the_document(self):
        self.same(self.takes_names(cheapest, RULES, SECRETS, NEEDS, OFFERS), ["rules", "secrets", "needs", "offers"])
        self.same(self.takes_names(shows_cheapest, RULES, SECRETS, NEEDS, OFFERS, None),
                  ["rules", "secrets", "needs", "offers", "value"])


class ShowsCheapestTest(Case):

    SECRETS = ((("r",), BY_A, "yes"), (("r",), ("and", BY_B, SOMEBODY), "yes"))
    NEEDS = ((("r",), SOMEBODY), (("r",), ("worth", "c")))
    OFFERS = ((BLANK, 3), (HIDE, 2))

    def setUp(self):
        told = cheapest(RULES, self.SECRETS, self.NEEDS, self.OFFERS)
        self.same(told[:3] + ([reason[:3] for reason in told[5]],),
                  ("choice", 3, (BLANK,), [((), "out", 0), ((HIDE,), "open", 0)]))
        _, self.price, self.choice, self.tables, self.sheets, self.reasons = told

    def shown(self, told, price=3, choice=(BLANK,), tables=None, sheets=None, reasons=None):
        value = ("choice", price, choice, self.tables if tables is None else tables,
                 self.sheets if sheets is None else sheets, self.reasons if reasons is None else reasons)
        self.same(shows_cheapest(RULES, self.SECRETS, self.NEEDS, self.OFFERS, value), told)

    def lores(self, rules, formula, run):
        rows = Naive(rules, ("r",), (formula,)).lores(view(rules, ("r",), run))
        return tuple(tuple(sorted(row)) for row in rows)

    def test_any_secret_and_any_need_in_a_reason(self):
        one, other = self.reasons
        run, by_b = (NIGHT, XB, NIGHT, XA), self.SECRETS[1][1]
        for reason in (((), "out", 1, run, self.lores(RULES, by_b, run)),
                       ((), "out", 0, run, self.lores(RULES, BY_A, run))):
            self.shown(True, reasons=(reason, other))
        behind = with_changes(RULES, (HIDE,))
        self.shown(True, reasons=(one, ((HIDE,), "open", 0, (XB, NIGHT, XA), (NIGHT,))))
        # Nothing is out by hide, and the cell is always known.
        for reason in (((HIDE,), "open", 1, (XB,), ()), ((HIDE,), "open", 0, (XB,), (XA,)),
                       ((HIDE,), "open", 2, (XB,), ()),
                       ((HIDE,), "open", -1, (XB,), ()), ((HIDE,), "open", False, (XB,), ()),
                       ((HIDE,), "open", 0, (XB,), (XA, XA)),
                       ((HIDE,), "out", 0, (XB,), self.lores(behind, BY_A, (XB,))), ((), "open", 0, (XB,), ()),
                       ((BLANK,), "open", 0, (XB,), ()), ((HIDE,), "Open", 0, (XB,), ()),
                       ((HIDE,), "sure", 0, (XB,), ())):
            self.shown(False, reasons=(one, reason))

    def test_reasons_spoilt(self):
        one, other = self.reasons
        for reasons in ((), (one,), (other,), (other, one), (one, one), (one, other, other), (one, other, one),
                        [one, other],
                        None, (one, None), (list(one), other), (one[:4], other), (one + (0,), other),
                        (((BLANK,),) + one[1:], other), (one[:1] + ("open",) + one[2:], other),
                        (one[:2] + (1,) + one[3:], one),
                        (one[:2] + (2,) + one[3:], other), (one[:2] + (True,) + one[3:], other),
                        (one[:2] + (False,) + one[3:], other), (one[:3] + ((XA,),) + one[4:], other),
                        (one[:4] + (one[4][:-1],), other), (one[:4] + (one[4][:-1] + (one[4][-1][1:],),), other)):
            if reasons is None:
                self.same(shows_cheapest(RULES, self.SECRETS, self.NEEDS, self.OFFERS, (
                    "choice", 3, (BLANK,), self.tables, self.sheets, None)), False)
            else:
                self.shown(False, reasons=reasons)

    def test_another_choice_or_price(self):
        for price, choice in ((2, (BLANK,)), (4, (BLANK,)), (True, (BLANK,)), ("3", (BLANK,)), (None, (BLANK,)),
                              (3, (HIDE,)),
                              (2, (HIDE,)), (0, ()), (3, ()), (5, (BLANK, HIDE)), (3, [BLANK]), (3, BLANK),
                              (3, (list(BLANK),)),
                              (3, ((BLANK, 3),)), (3, (DAILY,)), (3, None)):
            self.shown(False, price, choice)
        # With the reasons that belong there.
        self.shown(False, 2, (HIDE,), reasons=self.reasons[:1])
        self.shown(False, 0, (), reasons=())

    def test_tables_and_sheets_that_show_it_too(self):
        behind = with_changes(RULES, (BLANK,))
        # Lores with no more than what keeps the secret, and some that no member has.
        lores, members = self.tables[0]
        cut = tuple(sorted({tuple([case for case in row if case[2] == ((False,),)]) for row in lores} | set(lores)))
        places = [cut.index(tuple([case for case in row if case[2] == ((False,),)])) for row in lores]
        table = (cut, tuple([(case, places[at]) for case, at in members]))
        self.assertNotEqual(table, self.tables[0])
        self.shown(True, tables=(table, self.tables[1]))
        self.shown(False, tables=(self.tables[1], table))
        # More pairs, of a case that never comes.
        first = (((1,), 0),) + self.sheets[0][0][0][1:]
        naive = Naive(behind, ("r",), (SOMEBODY,))
        pairs, ahead = set(self.sheets[0]), [(first, first)]
        while ahead:
            pair = ahead.pop()
            if pair not in pairs:
                pairs.add(pair)
                ahead.extend([after for _, after in naive.next_pairs(pair)])
        self.assertGreater(len(pairs), len(self.sheets[0]))
        self.shown(True, sheets=(tuple(sorted(pairs)), self.sheets[1]))
        self.shown(False, sheets=(tuple(sorted(pairs - {(first, first)}))[::-1], self.sheets[1]))

    def test_tables_and_sheets_spoilt(self):
        one, other = self.tables
        for tables in ((one,), (other, one), (one, other, other), [one, other], (one, list(other)), (one, other[:1]),
                       (one, other + ((),)), (one, (other[0], other[1][1:])), (one, (other[0][1:], other[1])),
                       (one, None), (),
                       (one, ("kept",) + other)):
            self.shown(False, tables=tables)
        one, other = self.sheets
        for sheets in ((one,), (other, one), (one, other, other), [one, other], (one, list(other)), (one, other[1:]),
                       (one, ()),
                       (one, None), (), (one, ("sure", other))):
            self.shown(False, sheets=sheets)

    def test_none(self):
        secrets = ((("r",), SOMEBODY, "yes"),)
        offers = ((BLANK, 9), (DAILY, 9))
        word, reasons = cheapest(RULES, secrets, (), offers)
        self.same((word, len(reasons)), ("none", 4))
        for told, value in ((True, reasons), (False, reasons[:3]), (False, reasons[::-1]),
                            (False, reasons + reasons[-1:]),
                            (False, list(reasons)), (False, ()), (False, None), (False, reasons[1:])):
            self.same(shows_cheapest(RULES, secrets, (), offers, ("none", value)), told)
        for value in (("none",), ("none", reasons, ()), ["none", reasons], ("choice", reasons), (reasons,)):
            self.same(shows_cheapest(RULES, secrets, (), offers, value), False)
        self.same(shows_cheapest(RULES, self.SECRETS, self.NEEDS, self.OFFERS, ("none", self.reasons)), False)

    def test_values_of_every_kind(self):
        for value in VALUES:
            self.same(shows_cheapest(RULES, self.SECRETS, self.NEEDS, self.OFFERS, value), False)
            self.shown(False, price=value)
            self.shown(False, choice=value)
            self.shown(False, choice=(value,))
            if value is not None:
                self.shown(False, tables=value)
                self.shown(False, sheets=value)
                self.shown(False, reasons=value)
            self.shown(False, tables=(value, self.tables[1]))
            self.shown(False, tables=((value, self.tables[0][1]), self.tables[1]))
            self.shown(False, tables=((self.tables[0][0], value), self.tables[1]))
            self.shown(False, sheets=(value, self.sheets[1]))
            self.shown(False, sheets=((value,), self.sheets[1]))
            self.shown(False, reasons=(value, self.reasons[1]))
            one = self.reasons[0]
            for at in range(5):
                good = repr(value) == repr(one[at])
                self.shown(good, reasons=(one[:at] + (value,) + one[at + 1:], self.reasons[1]))
        value = ("choice", 3, (BLANK,), self.tables, self.sheets, self.reasons)
        for bad in (list(value), value[:5], value + ((),), ("none",) + value[1:], (None,) + value[1:]):
            self.same(shows_cheapest(RULES, self.SECRETS, self.NEEDS, self.OFFERS, bad), False)


class TooManyTest(Case):

    # Of r nothing is given but the nights; s is told of all that is done.
    RULES = Rules(House(BIG), "reader r\n  nights\nreader s\n  is a")
    NEVER = (("s",), BIG_NEVER, "yes")
    OUT = (("r",), BIG_NEVER, "no")

    def test_what_is_come_to(self):
        offers = ((("daily", "r"), 1), (("nights", "r"), 1))
        self.refuses(TooMany, 2000, cheapest, self.RULES, (self.NEVER,), (), offers)
        # Up to the first secret that is not kept, ahead of all needs.
        self.refuses(TooMany, 2000, cheapest, self.RULES, (self.NEVER, self.OUT), (), offers)
        needs = ((("r",), BIG_NEVER),)
        told = cheapest(self.RULES, (self.OUT, self.NEVER), needs, offers)
        self.same((told[0], [reason[:3] for reason in told[1]]),
                  ("none", [((), "out", 0), ((("daily", "r"),), "out", 0), ((("nights", "r"),), "out", 0),
                            ((("daily", "r"), ("nights", "r")), "out", 0)]))
        # A need behind secrets that are kept.
        free = (("r",), ("now", "c", 1), "yes")
        self.refuses(TooMany, 2000, cheapest, self.RULES, (free,), needs, offers)
        self.same(cheapest(self.RULES, (free,), (), offers)[:3], ("choice", 0, ()))
        # Behind a need that is not met no other one is looked at.
        unsure = (("r",), ("worth", "c"))
        told = cheapest(self.RULES, (free,), (unsure,) + needs, offers)
        self.same((told[0], [reason[1:3] for reason in told[1]]), ("none", [("open", 0)] * 4))
        self.refuses(TooMany, 2000, cheapest, self.RULES, (free,), needs + (unsure,), offers)

    def test_choices_behind_the_one_that_is_told_do_not_count(self):
        # While nights are told there are few cases; with daily numbers as well.
        house = House(SMALL)
        rules = Rules(house, "reader r\n  nights\n  kind k\n    number w")
        secrets, offers = ((("r",), BY_A, "yes"),), ((BLANK, 1), (HIDE, 2))
        told = cheapest(rules, secrets, (), offers)
        self.same(told[:3], ("choice", 1, (BLANK,)))
        sizes = [len(told[3][0][1]), len(kept(with_changes(rules, (HIDE,)), ("r",), ((BY_A, "yes"),))[2])]
        for limit in (min(sizes) - 1, max(sizes)):
            with mock.patch("givenout.members.LIMIT", limit):
                if limit < sizes[0]:
                    self.refuses(TooMany, limit, cheapest, rules, secrets, (), offers)
                else:
                    self.same(cheapest(rules, secrets, (), offers), told)

    def test_behind_all_other_errors(self):
        self.refuses(BadNeeds, None, cheapest, self.RULES, (self.NEVER,), None, ((("nights", "r"), 1),))
        self.refuses(BadOffers, (), cheapest, self.RULES, (self.NEVER,), (), ())


class LeastTest(Case):

    def test_what_is_told_holds(self):
        for made in some(60):
            offers = CheapestTest.offers(self, made)
            secrets = ((made.pool(), made.formula(), made.one("yes", "no", "whether")),)
            if offers:
                for choice, word, _, run, _ in cheapest(made.rules, secrets, (), offers)[-1]:
                    rules, (pool, formula, _) = with_changes(made.rules, choice), secrets[0]
                    self.same(word, "out")
                    lore = Naive(rules, pool, (formula,)).lores(view(rules, pool, run))[-1]
                    self.same(Naive(rules, pool, (formula,)).answers(lore), (answer(made.house, run, formula),))
