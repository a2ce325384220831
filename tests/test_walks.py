from givenout.cases import cases_behind, first_case
from givenout.houses import House
from givenout.rules import Rules
from givenout.walks import HIDDEN, UNSEEN, Walks
from tests.helpers import BIG, SMALL, Case

HOUSE = House(SMALL)
RULES = Rules(HOUSE, "reader r\n  kind k\n    number w")
DONE, WHO = ("done", "x", "a", None), ("who", "x")
XA, XB, NIGHT = ("do", "x", "a", 0), ("do", "x", "b", 0), ("night",)


class WalksTest(Case):

    def setUp(self):
        self.walks = Walks(RULES, ("r",), (DONE, WHO))

    def test_the_first_case_has_the_number_0(self):
        self.same(self.walks.cases, [first_case(RULES, ("r",), (DONE, WHO))])
        self.same(self.walks.number_of(self.walks.cases[0]), 0)

    def test_steps_are_those_of_the_cases(self):
        for number in range(4):
            told = cases_behind(RULES, ("r",), (DONE, WHO), self.walks.cases[number])
            steps = [(move, self.walks.part_of(shown), self.walks.number_of(case)) for move, shown, case in told]
            self.same(self.walks.steps_of(number), tuple(steps))
            self.same(self.walks.steps_of(number), tuple(steps))

    def test_what_is_behind_moves_that_show_this(self):
        part = self.walks.part_of(((("k", ("#0",)),),))
        steps = {move: case for move, _, case in self.walks.steps_of(0)}
        self.same(self.walks.behind(0, part), [steps[XA], steps[XB]])
        self.same(self.walks.behind(0, HIDDEN), [steps[XA], steps[XB]])
        self.same(self.walks.behind(0, UNSEEN), [steps[NIGHT]])
        self.same(self.walks.behind(0, self.walks.part_of(((("k", ("#1",)),),))), [])
        self.same(self.walks.all_behind([0, 0], part), [steps[XA], steps[XB]])

    def test_parts_by_numbers(self):
        one, other = ((("k", ("#0",)),),), ((("k", ("#1",)),),)
        self.same(self.walks.parts_of((one, other, one, ((),))), (1, 2, 1, UNSEEN))

    def test_what_comes_by_unseen_moves(self):
        walks = Walks(Rules(House(BIG), "reader r"), ("r",), ())
        self.same(len(walks.spread([0], None)), 64 * 4)
        self.assertIn(len(walks.spread([0], 100)), range(101, 256))
        self.same(len(walks.spread([0], 256)), 256)
        self.same(self.walks.spread([0], None), {0: True})

    def test_answers(self):
        behind = self.walks.behind(0, HIDDEN)
        self.same([self.walks.answers_of(number) for number in [0] + behind], [(False, ""), (True, "a"), (False, "b")])

    def test_cases_in_sequence(self):
        behind = self.walks.behind(0, HIDDEN)
        self.same(self.walks.told(behind[::-1] + [0]), tuple(sorted([self.walks.cases[at] for at in behind + [0]])))
        cases, ranks = self.walks.ranked()
        self.same(cases, sorted(self.walks.cases))
        self.same([cases[ranks[number]] for number in range(len(cases))], self.walks.cases)
