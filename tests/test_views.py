from givenout.asks import answer
from givenout.giving import view
from givenout.houses import House
from givenout.rules import Rules
from givenout.views import is_view, runs_to_answers
from givenout.walks import Walks
from tests.helpers import SMALL, VALUES, Case
from tests.made import some
from tests.naive import runs_up_to

HOUSE = House(SMALL)
RULES = Rules(HOUSE, "reader q\n  kind k\n    blank w\nreader r\n  kind k\n    number w")


def row(word):
    return ("k", (word,))


class IsViewTest(Case):

    def test_views_of_runs(self):
        for made in some(60):
            pool, run = made.pool(), made.run(9)
            self.assertTrue(is_view(made.rules, pool, view(made.rules, pool, run)))

    def test_views_of_no_runs(self):
        one, other = ((row("#0"),),), ((row("#1"),),)
        for value in ((), (one,), (one, one, other, one), (one, other, other)):
            self.same(is_view(RULES, ("r",), value), True)
        for value in VALUES[1:] + ((other,), (one, ((),), other), [one], (list(one),), (((("k", ["#0"]),),),), ((),),
                                   (((row("#2"),),),), (((row("a"),),),), (((row("#0"), row("#1")),),), one,
                                   ((((row("#0"),)), ()),), (((("night",),),),), ((one,),)):
            if value != ():
                self.same(is_view(RULES, ("r",), value), False)

    def test_parts_of_another_pool(self):
        part = ((row("-"),), (row("#0"),))
        self.same(is_view(RULES, ("q", "r"), (part,)), True)
        for value in ((part[::-1],), ((part[0],),), ((part[1],),), ((part[0], ()),), (part + part,)):
            self.same(is_view(RULES, ("q", "r"), value), False)

    def test_only_such_as_runs_can_show(self):
        # What comes of four moves is all that can come one behind the other in this house.
        parts = [((row(word),),) for word in ("#0", "#1")]
        views = {view(RULES, ("r",), run) for run in runs_up_to(HOUSE, 5)}
        for one in parts:
            for two in parts:
                for three in parts:
                    value = (one, two, three)
                    self.same(is_view(RULES, ("r",), value), value in views)


class RunsTest(Case):

    def test_each_run_gives_its_answer(self):
        for made in some(60):
            pool, ask, told = made.pool(), made.ask(), None
            walks = Walks(made.rules, pool, (ask,))
            told = view(made.rules, pool, made.run(6))
            rows = runs_to_answers(walks, walks.parts_of(told))
            self.assertNotEqual(rows, ())
            self.same([given for given, _ in rows], sorted({given for given, _ in rows}))
            for given, run in rows:
                self.same(view(made.rules, pool, run), told)
                self.same(answer(made.house, run, ask), given)
