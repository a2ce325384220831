from givenout.cases import cases_behind, first_case
from givenout.houses import House
from givenout.proofs import Table, are_cases, are_lores, are_members, hold_all, holds_all, is_case_of, is_within
from givenout.rules import Rules
from givenout.walks import UNSEEN, Walks
from tests.helpers import SMALL, VALUES, Case

RULES = Rules(House(SMALL), "reader r\n  kind k\n    number w")
DONE = ("done", "x", "a", None)
FIRST = first_case(RULES, ("r",), (DONE,))
PART = ((("k", ("#0",)),),)


def behind(case, shown):
    """The cases behind moves that show this."""
    return [after for _, other, after in cases_behind(RULES, ("r",), (DONE,), case) if other == shown]


A, B = behind(FIRST, PART)
# The same behind an unseen night.
LATER_A, LATER_B = behind(A, ((),))[0], behind(B, ((),))[0]
LORE = tuple(sorted([A, B, LATER_A, LATER_B]))


class FormsTest(Case):

    def setUp(self):
        self.walks = Walks(RULES, ("r",), (DONE,))

    def test_cases(self):
        for value in ((FIRST,), LORE, tuple(sorted([FIRST, A]))):
            self.same(are_cases(self.walks, value), True)
        for value in VALUES + (LORE[::-1], LORE + LORE[-1:], list(LORE), FIRST, (FIRST, None), (list(FIRST),)):
            self.same(are_cases(self.walks, value), False)
            self.same(is_case_of(self.walks, value), value == FIRST)

    def test_lores(self):
        for value in ((), ((FIRST,),), tuple(sorted([(FIRST,), LORE]))):
            self.same(are_lores(self.walks, value), True)
        for value in ([(FIRST,)], ((),), ([FIRST],), (LORE, (FIRST,)), (LORE, LORE), LORE, ((FIRST,), None)):
            self.same(are_lores(self.walks, value), False)

    def test_members(self):
        for value in ((), ((FIRST, 0),), ((FIRST, 0), (FIRST, 1))):
            self.same(are_members(self.walks, value, 2), True)
        for value in ([(FIRST, 0)], ((FIRST, 2),), ((FIRST, -1),), ((FIRST, False),), ([FIRST, 0],), ((FIRST,),),
                      (FIRST,),
                      ((FIRST, 1), (FIRST, 0)), ((FIRST, 0), (FIRST, 0)), ((None, 0),), ((FIRST, None),), None):
            self.same(are_members(self.walks, value, 2), False)

    def test_all_within(self):
        self.same([is_within(numbers, {1: True, 2: True}) for numbers in ([], [1], [2, 1], [1, 3], [3])],
                  [True, True, True, False, False])


class HoldTest(Case):

    def setUp(self):
        self.walks = Walks(RULES, ("r",), (DONE,))

    def test_lores_along_a_view(self):
        parts = self.walks.parts_of((PART,))
        for value in (((FIRST,), LORE), ((FIRST,), tuple(sorted(LORE + (FIRST,))))):
            self.same(hold_all(self.walks, parts, value), True)
        for value in (((FIRST,), LORE[:-1]), ((FIRST,), LORE[1:]), ((FIRST,),), (LORE, LORE), ((), LORE), (LORE,),
                      ((FIRST,), LORE, LORE), [(FIRST,), LORE], ((FIRST,), LORE[::-1]), ((FIRST,), list(LORE)),
                      (None, None)):
            self.same(hold_all(self.walks, parts, value), False)
        self.same(hold_all(self.walks, (), ((FIRST,),)), True)

    def test_what_is_closed(self):
        numbers = [self.walks.number_of(case) for case in (A, B, LATER_A, LATER_B)]
        self.same(holds_all(self.walks, numbers, UNSEEN, numbers), True)
        self.same(holds_all(self.walks, numbers[:2], UNSEEN, numbers[:2]), False)
        self.same(holds_all(self.walks, numbers[2:], UNSEEN, numbers[2:]), True)
        self.same(holds_all(self.walks, [0], self.walks.part_of(PART), numbers[:2]), True)
        self.same(holds_all(self.walks, [0], self.walks.part_of(PART), numbers[1:]), False)


class TableTest(Case):

    def test_a_table_that_is_closed(self):
        rules = Rules(House(SMALL), "reader r")
        walks = Walks(rules, ("r",), (DONE,))
        cases = walks.told(walks.spread([0], None))
        table = Table(walks, (cases,), tuple([(case, 0) for case in cases]))
        self.same(table.is_closed(), True)
        # With one member less, and with one lore that only holds what cannot be yet.
        for at in range(len(cases)):
            less = Table(walks, (cases,), tuple([(case, 0) for case in cases if case != cases[at]]))
            self.same(less.is_closed(), False)
        self.same(Table(walks, (cases[:1],), tuple([(case, 0) for case in cases])).is_closed(), True)
        other = (((1,), 0),) + walks.cases[0][1:]
        for lore in ((other,), tuple(sorted(cases + (other,)))):
            self.same(Table(walks, (lore,), tuple([(case, 0) for case in cases])).is_closed(), False)
