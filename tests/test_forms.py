from givenout.forms import (
    are_written_rows, is_alike, is_ascending, is_deed, is_from, is_given_row, is_item, is_memory, is_move, is_part,
    is_stand, is_written_row, pick_of_deed, size_of_cell)
from givenout.houses import House
from tests.helpers import FULL, VALUES, Case

HOUSE = House(FULL)


class FormsTest(Case):

    def test_integers_within_bounds(self):
        for value in (0, 1, 3):
            self.assertTrue(is_from(value, 0, 4))
        for value in (-1, 4, True, False, None, "1", (1,), [1], {}):
            self.assertFalse(is_from(value, 0, 4))
        self.assertTrue(is_from(-1, -1, 4))

    def test_sizes_and_picks(self):
        self.same([size_of_cell(HOUSE, cell) for cell in ("c", "d", "e", "f", None, ["c"])], [4, 2, 3, 0, 0, 0])
        self.same([pick_of_deed(HOUSE, deed) for deed in ("x", "y", "w", None, ["x"])], [3, 1, 0, 0, 0])

    def test_values_of_every_kind(self):
        for value in VALUES:
            with self.subTest(value=value):
                self.same(is_move(HOUSE, value), value == ("night",))
                for look in (is_stand, is_deed, is_written_row, is_given_row, is_memory):
                    self.same(look(HOUSE, value), False)
                self.same(is_item(HOUSE, value), value == ("night",))
                self.same(is_part(HOUSE, ("r",), value), False)
                self.same(are_written_rows(HOUSE, value, ("night",)), value == ())

    def test_what_is_of_the_form(self):
        self.assertTrue(is_stand(HOUSE, ((3, 1, 2), 3)))
        self.assertTrue(is_deed(HOUSE, ("do", "x", "ann", 2)))
        self.assertFalse(is_deed(HOUSE, ("night",)))
        self.assertTrue(is_written_row(HOUSE, ("k", ("cy", 3, 1))))
        self.assertTrue(is_given_row(HOUSE, ("k", ("#2", -1, 0))))
        self.assertFalse(is_written_row(HOUSE, ("k", ("cy", -1, 1))))
        self.assertFalse(is_written_row(HOUSE, ("k", ("-", 3, 1))))
        self.assertTrue(is_memory(HOUSE, (("cy", "ann"), (("k", ("#0", 3, 1)), ("l", ())), (0, 3, 1))))
        self.assertTrue(are_written_rows(HOUSE, (("l", ()), ("l", ())), ("do", "n", "bob", 0)))
        self.assertFalse(are_written_rows(HOUSE, (("l", ()),) * 3, ("do", "n", "bob", 0)))
        self.assertFalse(are_written_rows(HOUSE, (("l", ()),), ("night",)))

    def test_items(self):
        for value in (("k", ("cy", 3, 1)), ("k", ("-", -1, -1)), ("k", ("#2", 0, 0)), ("l", ()), ("did", "x", 2),
                      ("did", "y", 0), ("count", "l", 0), ("count", "k", 3), ("night",)):
            self.same(is_item(HOUSE, value), True)
        for value in (("k", ("dot", 3, 1)), ("k", ("#3", 3, 1)), ("k", ("cy", 4, 1)), ("k", ("cy", -2, 1)), ("l", (0,)),
                      ("l",), ("o", ()), ("did", "x", 3), ("did", "x", -1), ("did", "x", True), ("did", "w", 0),
                      ("did", "x"), ("did", ["x"], 0), ("count", "k", 4), ("count", "k", True), ("count", "x", 0),
                      ("count", ["k"], 0), (["did"], "x", 0), ["night"], "night", ("night", 0), ["l", ()], ("l", [])):
            self.same(is_item(HOUSE, value), False)

    def test_parts(self):
        night, did = ("night",), ("did", "x", 0)
        for value in (((night,),), ((did, night, did),)):
            self.same(is_part(HOUSE, ("r",), value), True)
        for value in (((night,), ()), ((), (did,)), ((did,), (night, night))):
            self.same(is_part(HOUSE, ("q", "r"), value), True)
            self.same(is_part(HOUSE, ("r",), value), False)
        for value in (((), ()), ((night,),), ([night], ()), ((night,), None), ((night,), "night"), [(night,), ()],
                      ((night,), (None,)), ((night,), (), ()), ((["night"],), ())):
            self.same(is_part(HOUSE, ("q", "r"), value), False)

    def test_ascending(self):
        for values in ((), (1,), (1, 2, 5), ["a", "b"], (((), 1), ((0,), 0))):
            self.same(is_ascending(values), True)
        for values in ((1, 1), (2, 1), (1, 3, 2), ["b", "a"]):
            self.same(is_ascending(values), False)

    def test_alike(self):
        for value in VALUES:
            self.same([is_alike(value, other) for other in VALUES],
                      [repr(value) == repr(other) for other in VALUES])
        for value, other in ((True, 1), (0, False), ((1, (True,)), (1, (1,))), ([1], (1,)), (((),), ([],)), ("1", 1),
                             (10 ** 5000, 1)):
            self.same(is_alike(value, other), False)
