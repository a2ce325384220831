from unittest import mock

from givenout import members as module
from givenout.cases import cases_behind, first_case
from givenout.errors import TooMany
from givenout.giving import view
from givenout.houses import House
from givenout.lores import LIMIT, Lores
from givenout.members import Members
from givenout.rules import Rules
from givenout.walks import Walks
from tests.helpers import BIG, BIG_ASK, BIG_NEVER, Case
from tests.made import some
from tests.naive import Naive


def members_of(rules, pool, ask):
    """The members, of which the first one is there."""
    return Members(Lores(Walks(rules, pool, (ask,)), (), LIMIT))


class MembersTest(Case):

    def test_they_come_by_the_lengths_of_runs(self):
        for made in some(60):
            pool, ask = made.pool(), made.ask()
            members = members_of(made.rules, pool, ask)
            naive = Naive(made.rules, pool, (ask,))
            levels = list(naive.levels())
            for level in levels:
                fresh = [members.pairs[number] for number in members.fresh]
                walks, lores = members.lores.walks, members.lores
                self.assertEqual({(walks.cases[case], frozenset(walks.told(lores.rows[lore]))) for case, lore in fresh},
                                 level)
                members.go_on()
            self.same(members.fresh, [])
            self.same(members.table(), naive.table(set().union(*levels)))

    def test_runs_lead_to_them(self):
        for made in some(40):
            pool, ask = made.pool(), made.ask()
            members = members_of(made.rules, pool, ask)
            members.take_all()
            for number in range(0, len(members.pairs), 7):
                run, case = members.run_to(number), first_case(made.rules, pool, (ask,))
                for done in run:
                    case, = [behind for move, _, behind in cases_behind(made.rules, pool, (ask,), case) if move == done]
                at, lore = members.pairs[number]
                self.same(members.lores.walks.cases[at], case)
                parts = members.lores.walks.parts_of(view(made.rules, pool, run))
                self.same(members.lores.led(0, parts)[-1], lore)
            self.same([members.table()[0][place] for _, place, _ in members.told()[1]],
                      [members.lores.walks.told(members.lores.rows[members.pairs[number][1]])
                       for _, _, number in members.told()[1]])

    def test_too_many(self):
        for text, ask in (("reader r\n  is a", BIG_NEVER), ("reader r", BIG_NEVER), ("reader r", BIG_ASK)):
            self.refuses(TooMany, 2000, members_of(Rules(House(BIG), text), ("r",), ask).take_all)
        members = members_of(Rules(House(BIG), "reader r"), ("r",), ("worth", "c"))
        members.take_all()
        self.same(len(members.pairs), 256)

    def test_the_limit_itself(self):
        for most in (255, 256):
            with mock.patch.object(module, "LIMIT", most):
                members = members_of(Rules(House(BIG), "reader r"), ("r",), ("worth", "c"))
                if most == 255:
                    self.refuses(TooMany, 255, members.take_all)
                else:
                    members.take_all()
