from givenout.doubles import PARTED, DoublePairs, Doubles
from givenout.houses import House
from givenout.rules import Rules
from givenout.walks import UNSEEN, Walks
from tests.helpers import SMALL, Case
from tests.made import some
from tests.naive import Beside

HOUSE = House(SMALL)
NUMBER = Rules(HOUSE, "reader r\n  kind k\n    number w")
BLANK = Rules(HOUSE, "reader s\n  kind k\n    blank w")
XA, XB, NIGHT = ("do", "x", "a", 0), ("do", "x", "b", 0), ("night",)
NONE = ((), (), (0,))


def doubles_of(rules, others):
    """What comes for all readers of both."""
    return Doubles(Walks(rules, rules.readers, ()), Walks(others, others.readers, ()))


class DoublesTest(Case):

    def setUp(self):
        self.doubles = doubles_of(NUMBER, BLANK)

    def test_the_first_one(self):
        self.same(self.doubles.cases, [(((0,), 0), (NONE,), (NONE,))])
        self.same(self.doubles.number_at((((0,), 0), (NONE,), (NONE,))), 0)

    def test_steps(self):
        steps = self.doubles.steps_of(0)
        self.same([move for move, _, _ in steps], [XA, XB, NIGHT])
        parts = [part for _, part, _ in steps]
        self.same((parts[0] == parts[1], parts[2]), (True, UNSEEN))
        self.same([self.doubles.cases[number] for _, _, number in steps],
                  [(((0,), 1), ((("a",), (), (0,)),), (NONE,)), (((0,), 1), ((("b",), (), (0,)),), (NONE,)),
                   (((0,), 0), (NONE,), (NONE,))])
        self.same(steps[2][2], 0)
        self.same(self.doubles.steps_of(0), steps)

    def test_what_parts_the_mates(self):
        turned = doubles_of(BLANK, Rules(HOUSE, "reader r\n  kind k"))
        for doubles, moves, told in ((self.doubles, (XA, XB), False), (self.doubles, (NIGHT, None), False),
                                     (self.doubles, (None, XA), True), (turned, (XA, XA), False),
                                     (turned, (XA, XB), True), (turned, (XB, NIGHT), True)):
            doubles.steps_of(0)
            self.same(doubles.are_parted((0, 0), moves), told)

    def test_as_cases_that_are_told(self):
        for number in range(3):
            for move, _, behind in self.doubles.steps_of(number):
                case = self.doubles.cases[behind]
                self.same(self.doubles.number_at(case), behind)
        cases, ranks = self.doubles.ranked()
        self.same(cases, sorted(self.doubles.cases))
        self.same([cases[ranks[number]] for number in range(len(cases))], self.doubles.cases)

    def test_steps_of_made_houses(self):
        for made in some(40):
            others = Rules(made.house, "\n".join(made.rules_lines(True)))
            doubles, plain = doubles_of(made.rules, others), Beside(made.rules, made.rules.readers, others,
                                                                    others.readers)
            for number in (0, doubles.steps_of(0)[0][2]):
                self.same([doubles.cases[behind] for _, _, behind in doubles.steps_of(number)],
                          [behind for _, _, behind in plain.steps(doubles.cases[number])])
                self.same([part == UNSEEN for _, part, _ in doubles.steps_of(number)],
                          [shown is None for shown, _, _ in plain.steps(doubles.cases[number])])


class DoublePairsTest(Case):

    def test_steps_of_pairs(self):
        for rules, others, parted in ((NUMBER, BLANK, 0), (BLANK, NUMBER, 0), (BLANK, Rules(HOUSE, "reader r"), 0),
                                      (Rules(HOUSE, "reader r"), BLANK, 4),
                                      (BLANK, Rules(HOUSE, "reader r\n  kind k"), 2)):
            steps = DoublePairs(doubles_of(rules, others)).steps_from((0, 0))
            self.same(len([row for row in steps if row[1:] == PARTED]), parted)

    def test_steps_of_pairs_in_made_houses(self):
        for made in some(60):
            others = Rules(made.house, "\n".join(made.rules_lines(True)))
            doubles, plain = doubles_of(made.rules, others), Beside(made.rules, made.rules.readers, others,
                                                                    others.readers)
            pairs = DoublePairs(doubles)
            steps = [(len([move for move in moves if move is not None]),
                      None if (one, other) == PARTED else tuple(sorted([doubles.cases[one], doubles.cases[other]])))
                     for moves, one, other in pairs.steps_from((0, 0))]
            self.assertEqual(set(steps), set(plain.next_pairs((plain.first, plain.first))))
