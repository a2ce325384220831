from unittest import mock

from givenout import threads as threads_module
from givenout.errors import TooMany
from givenout.hindsight import known_answers
from givenout.houses import House
from givenout.knowing import answers
from givenout.giving import view
from givenout.rules import Rules
from givenout.states import Step, first_state, led_on, with_rules
from tests.helpers import SMALL, Case
from tests.made import some

HOUSE = House(SMALL)
NUMBER = Rules(HOUSE, "reader r\n  kind k\n    number w")
PLAIN = Rules(HOUSE, "reader r\n  kind k")
BY_A, BY_B, WHO, SOMEBODY = ("done", "x", "a", None), ("done", "x", "b", None), ("who", "x"), ("done", "x", None, None)
XA, XB, NIGHT = ("do", "x", "a", 0), ("do", "x", "b", 0), ("night",)
# The guard of a secret that never is one.
FREE = (("r",), ((("now", "c", 1), "yes"),), ((),))
GUARD = (("r",), ((BY_A, "yes"),), ((),))


def behind(state, steps):
    """The steps, moves and rules, done behind the state; the state behind them."""
    done = []
    for step in steps:
        if isinstance(step, tuple):
            entry, after = led_on(state, step)
            done.append(Step(state, after, (step,), entry, ""))
        else:
            after = with_rules(state, step)
            done.append(Step(state, after, (), ("rules", step.text), ""))
        state = after
    return (tuple(done), state)


class KnownAnswersTest(Case):

    def known(self, rules, guard, steps, ask, told):
        done, state = behind(first_state(rules, (guard,)), steps)
        self.same(known_answers(done, state, 0, ask), told)

    def test_by_hand(self):
        for steps, ask, told in (
                ((), WHO, ("",)), ((XA,), WHO, ("a",)), ((XA, NIGHT, XB), WHO, ("b",)), ((XB,), BY_A, (False,)),
                ((XA, NIGHT), ("today", "x", None, None), (False, True)), ((XA,), ("times", "x", 2), (1,)),
                ((XA, NIGHT, XB), ("and", BY_A, BY_B), (True,)), ((), ("worth", "c"), (0,))):
            self.known(PLAIN, FREE, steps, ask, told)

    def test_by_the_ways_that_there_were(self):
        for steps, ask, told in (((XA,), WHO, ("a", "b")), ((XA, NIGHT, XB), WHO, ("a", "b")),
                                 ((XA, NIGHT, XB), SOMEBODY, (True,)), ((XA, NIGHT, XB), ("times", "x", 3), (1, 2, 3)),
                                 ((), ("times", "x", 3), (0,)), ((XA,), BY_A, (False, True)),
                                 ((XA,), BY_B, (False, True))):
            self.known(NUMBER, GUARD, steps, ask, told)

    def test_through_changes_of_rules(self):
        nobody = Rules(HOUSE, "reader s\n  kind k")
        for steps, ask, told in (
                ((PLAIN, XA), WHO, ("a",)), ((NUMBER, XA), WHO, ("a", "b")), ((XA, nobody), WHO, ("a", "b")),
                ((XA, nobody), BY_A, (True,)), ((XA, NIGHT, nobody, XB), WHO, ("a", "b")),
                ((nobody, PLAIN), WHO, ("", "a", "b")), ((XA, nobody, NIGHT, XB, PLAIN, NIGHT), ("last", "x", "a"),
                                                         (False, True)),
                ((XA, nobody, PLAIN, NIGHT, XB), WHO, ("b",)), ((XA, nobody, NIGHT, PLAIN), BY_A, (True,)),
                ((XA, nobody, NIGHT, PLAIN), BY_B, (False, True))):
            self.known(PLAIN, FREE, steps, ask, told)

    def test_as_what_the_rules_tell(self):
        # As long as the way is the first one, that of the rules as they are.
        many = 0
        for made in some(100):
            pool, ask, run = made.pool(), made.ask(), made.run(8)
            guard = (pool, ((("now", made.house.cells[0][0], 0), "no"),), ((),))
            try:
                done, state = behind(first_state(made.rules, (guard,)), run)
            except ValueError:
                continue
            if not any([step.start.ways[0] for step in done]) and state.ways == (0,):
                told = answers(made.rules, pool, ask, view(made.rules, pool, run))[0]
                self.same(known_answers(done, state, 0, ask), tuple([given for given, _ in told]))
                many += 1
        self.assertGreater(many, 20)

    def test_more_cases_than_are_looked_at(self):
        done, state = behind(first_state(NUMBER, (GUARD,)), (XA, NIGHT, XB))
        # By silence, behind "#0": all that can be, with who did it last and how often.
        for limit, ask in ((5, BY_A), (12, WHO), (200, WHO)):
            with mock.patch.object(threads_module, "LIMIT", limit):
                if limit == 5:
                    with self.assertRaises(TooMany) as caught:
                        known_answers(done, state, 0, ask)
                    self.same(caught.exception.number, 5)
                else:
                    known_answers(done, state, 0, ask)
