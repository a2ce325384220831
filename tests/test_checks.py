from givenout.checks import is_run, need_ask, need_run, need_view
from givenout.errors import BadAsk, BadPool, BadRun, BadView
from givenout.houses import House
from givenout.rules import Rules
from tests.helpers import SMALL, VALUES, Case

HOUSE = House(SMALL)
RULES = Rules(HOUSE, "reader r\n  kind k")
NOW, X, NIGHT = ("now", "c", 0), ("do", "x", "a", 0), ("night",)
PART = ((("k", ("a",)),),)


class ChecksTest(Case):

    def test_what_is_right_is_let(self):
        for check, value in ((need_view, ()), (need_view, (PART, PART)), (need_run, ()), (need_run, (X, NIGHT, X))):
            check(RULES, ("r",), NOW, value)
        need_ask(RULES, ("r",), ("who", "x"))

    def test_what_is_not_is_refused_in_sequence(self):
        pool, ask, bad = ["r"], ["now"], [None]
        self.refuses(BadPool, pool, need_ask, RULES, pool, ask)
        self.refuses(BadAsk, ask, need_ask, RULES, ("r",), ask)
        for check in (need_view, need_run):
            self.refuses(BadPool, pool, check, RULES, pool, ask, bad)
            self.refuses(BadAsk, ask, check, RULES, ("r",), ask, bad)
        self.refuses(BadView, bad, need_view, RULES, ("r",), NOW, bad)
        self.refuses(BadRun, 0, need_run, RULES, ("r",), NOW, bad)
        self.refuses(BadRun, 2, need_run, RULES, ("r",), NOW, (X, X))

    def test_runs(self):
        for value in ((), (X,), (X, NIGHT, X), (NIGHT, NIGHT)):
            self.same(is_run(HOUSE, value), True)
        for value in [value for value in VALUES if value != ()] + [(X, X), [X], (X, list(NIGHT)), X]:
            self.same(is_run(HOUSE, value), False)
