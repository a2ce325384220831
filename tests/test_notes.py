from givenout.houses import House
from givenout.notes import answer_by, are_notes, first_notes, noted_leaves, notes_behind
from tests.helpers import FULL, VALUES, Case

HOUSE = House(FULL)
DONE, TODAY, LAST = ("done", "x", "ann", 2), ("today", "x", None, None), ("last", "y", "cy")
OFTEN, NOW = ("often", "x", 2), ("now", "c", 3)
ASK = ("and", ("or", DONE, NOW), ("and", ("not", LAST), ("or", TODAY, OFTEN)))
X, Y, NIGHT = ("do", "x", "ann", 2), ("do", "y", "bob", 0), ("night",)


class NotesTest(Case):

    def test_the_leaves_from_left_to_right(self):
        self.same(noted_leaves(ASK), [DONE, LAST, TODAY, OFTEN])
        self.same(noted_leaves(NOW), [])
        for ask in (("who", "x"), ("times", "x", 2)):
            self.same(noted_leaves(ask), [ask])
        self.same(noted_leaves(("worth", "c")), [])

    def test_notes_along_moves(self):
        notes = first_notes(ASK)
        self.same(notes, (False, "", False, 0))
        for move, behind in (
                (Y, (False, "bob", False, 0)), (X, (True, "bob", True, 1)), (NIGHT, (True, "bob", False, 1)),
                (("do", "x", "cy", 0), (True, "bob", True, 2)), (X, (True, "bob", True, 2)),
                (("do", "n", "ann", 0), (True, "bob", True, 2))):
            notes = notes_behind(ASK, notes, move)
            self.same(notes, behind)

    def test_answers_by_notes(self):
        for notes, given in (
                ((True, "bob", True, 0), True), ((True, "cy", True, 0), False), ((False, "bob", True, 0), False),
                ((True, "", False, 2), True), ((True, "", False, 1), False)):
            self.same(answer_by(HOUSE, ASK, (0, 0, 0), notes), given)
        self.same(answer_by(HOUSE, ASK, (3, 0, 0), (False, "", True, 0)), True)
        self.same(answer_by(HOUSE, ("worth", "e"), (3, 0, 2), ()), 2)
        self.same(answer_by(HOUSE, ("who", "x"), (3, 0, 2), ("cy",)), "cy")
        self.same(answer_by(HOUSE, ("times", "x", 3), (3, 0, 2), (2,)), 2)

    def test_notes_by_their_form(self):
        for value in ((False, "", False, 0), (True, "ann", True, 2), (False, "bob", True, 1)):
            self.same(are_notes(HOUSE, ASK, value), True)
        for value in VALUES + ((0, "", False, 0), (False, "dot", False, 0), (False, "", 1, 0), (False, "", False, 3),
                               (False, "", False, True), (False, "", False), (False, "", False, 0, 0)):
            self.same(are_notes(HOUSE, ASK, value), False)
        for value in VALUES:
            self.same(are_notes(HOUSE, NOW, value), value == ())
