from givenout.errors import BadRun, BadStand, NoMove
from givenout.houses import House
from givenout.stands import after, first_stand, led, moves
from tests.helpers import FULL, SMALL, VALUES, Case

NIGHT = ("night",)

# Deeds are not in the sequence of their names, people neither.
HOUSE = House("""people zoe ann
cell c 4 1
cell d 3 2
kind k
  who w
  worth v 4
kind l
kind m
  worth v 4
  worth u 4
  who w
deed y
  by zoe
  if c = 1
  if d != 0
  pick 3
  set c it
  add c 3
  row m c d ann
  row k who it
deed b
  if c != 1
  set d d
  add d 2
  add c d
  row l
deed x
  by ann
  pick 2
day 2""")


def do(deed, who, it=0):
    return ("do", deed, who, it)


class StandsTest(Case):

    def test_the_example(self):
        house = House(SMALL)
        self.same(first_stand(house), ((0,), 0))
        self.same(moves(house, ((0,), 0)), (do("x", "a"), do("x", "b"), NIGHT))
        self.same(after(house, ((0,), 0), do("x", "b")), (((0,), 1), (("k", ("b",)),)))

    def test_the_first_stand(self):
        self.same(first_stand(HOUSE), ((1, 2), 0))
        self.same(first_stand(House(FULL)), ((3, 0, 1), 0))

    def test_moves_are_ascending_by_names(self):
        self.same(moves(HOUSE, ((1, 2), 0)), (
            do("x", "ann", 0), do("x", "ann", 1), do("y", "zoe", 0), do("y", "zoe", 1), do("y", "zoe", 2), NIGHT))
        self.same(moves(HOUSE, ((0, 2), 1)), (
            do("b", "ann"), do("b", "zoe"), do("x", "ann", 0), do("x", "ann", 1), NIGHT))

    def test_all_tests_of_a_deed_must_hold(self):
        for c in range(4):
            for d in range(3):
                told = set([move[1] for move in moves(HOUSE, ((c, d), 0))[:-1]])
                self.assertEqual(told, {"x"} | ({"y"} if c == 1 and d != 0 else set()) | ({"b"} if c != 1 else set()))

    def test_the_most_deeds_a_day(self):
        for day in (1, 2, 3):
            house = House(SMALL.replace("day 1", f"day {day}"))
            for today in range(day):
                self.assertEqual(len(moves(house, ((0,), today))), 3)
                self.same(after(house, ((0,), today), do("x", "a"))[0], ((0,), today + 1))
            self.same(moves(house, ((0,), day)), (NIGHT,))
            move, stand = do("x", "a"), ((0,), day + 1)
            self.refuses(NoMove, move, after, house, ((0,), day), move)
            self.refuses(BadStand, stand, moves, house, stand)

    def test_the_night(self):
        for today in (0, 1, 2):
            self.same(after(HOUSE, ((3, 1), today), NIGHT), (((3, 1), 0), ()))

    def test_changes_are_done_one_behind_the_other_and_rows_behind_them(self):
        # c becomes it, then it + 3 modulo 4.
        for it, c in ((0, 3), (1, 0), (2, 1)):
            self.same(after(HOUSE, ((1, 2), 0), do("y", "zoe", it)),
                      (((c, 2), 1), (("m", (c, 2, "ann")), ("k", ("zoe", it)))))
        # d + 2 modulo 3, then c plus this modulo 4.
        for (c, d), told in (((0, 0), (2, 2)), ((3, 0), (1, 2)), ((2, 1), (2, 0)), ((3, 2), (0, 1))):
            self.same(after(HOUSE, ((c, d), 1), do("b", "ann")), ((told, 2), (("l", ()),)))

    def test_a_cell_is_added_to_itself(self):
        house = House("people a\ncell c 4 3\ncell d 2 1\ndeed x\n  add c c\n  add c d\n  set c c\nday 1")
        self.same(after(house, ((3, 1), 0), do("x", "a")), (((3, 1), 1), ()))
        self.same(after(house, ((2, 0), 0), do("x", "a")), (((0, 0), 1), ()))

    def test_it_is_nothing_without_pick(self):
        house = House(
            "people a\ncell c 4 3\nkind k\n  worth v 4\ndeed x\n  add c it\n  row k it\ndeed y\n  set c it\nday 1")
        self.same(after(house, ((3,), 0), do("x", "a")), (((3,), 1), (("k", (0,)),)))
        self.same(after(house, ((3,), 0), do("y", "a")), (((0,), 1), ()))

    def test_names_that_are_words(self):
        house = House(
            "people it b\ncell who 4 2\nkind k\n  who w\n  who x\n  worth v 4\n"
            "deed night\n  row k it who who\nday 1")
        self.same(after(house, ((2,), 0), do("night", "b")), (((2,), 1), (("k", ("it", "b", 2)),)))

    def test_a_deed_that_does_nothing(self):
        self.same(after(HOUSE, ((1, 2), 0), do("x", "ann", 1)), (((1, 2), 1), ()))

    def test_alike_rows(self):
        house = House(SMALL.replace("  row k who", "  row k who\n  row k who"))
        self.same(after(house, ((0,), 0), do("x", "a"))[1], (("k", ("a",)), ("k", ("a",))))

    def test_by_the_names_of_the_document(self):
        stand, move = ((1, 2), 0), do("y", "zoe", 2)
        self.same(first_stand(house=HOUSE), first_stand(HOUSE))
        self.same(moves(stand=stand, house=HOUSE), moves(HOUSE, stand))
        self.same(after(move=move, stand=stand, house=HOUSE), after(HOUSE, stand, move))
        self.same(led(run=(move,), house=HOUSE), led(HOUSE, (move,)))

    def test_each_possible_move_is_done_and_no_other(self):
        every = [do(deed, who, it) for deed in "bxyz" for who in ("ann", "zoe", "cy") for it in range(-1, 4)] + [NIGHT]
        for stand in [((c, d), today) for c in range(4) for d in range(3) for today in range(3)]:
            possible = moves(HOUSE, stand)
            self.assertEqual(possible, tuple(sorted(possible)))
            self.assertEqual([move for move in every if move in possible], sorted(possible))
            for move in every:
                if move in possible:
                    after(HOUSE, stand, move)
                else:
                    self.refuses(NoMove, move, after, HOUSE, stand, move)


class RefusedTest(Case):

    def test_what_is_no_stand(self):
        bad = VALUES + (
            ((1, 2), 3), ((1, 2), -1), ((1, 2), True), ((1, 2), None), ((1, 2), "0"), ((1, True), 0), ((4, 2), 0),
            ((1, 3), 0), ((-1, 2), 0), ((1,), 0), ((1, 2, 0), 0), ([1, 2], 0), [(1, 2), 0], ((1, 2),), ((1, 2), 0, 0),
            ((1, None), 0),
            ((1, "2"), 0), ((1, (2,)), 0), (0, (1, 2)), ((), 0), ({1: 2}, 0), ((False, 2), 0))
        for value in bad:
            with self.subTest(value=value):
                self.refuses(BadStand, value, moves, HOUSE, value)
                self.refuses(BadStand, value, after, HOUSE, value, NIGHT)
                self.refuses(BadStand, value, after, house=HOUSE, stand=value, move=NIGHT)

    def test_each_stand_by_its_form_will_do(self):
        for stand in [((c, d), today) for c in range(4) for d in range(3) for today in range(3)]:
            moves(HOUSE, stand)

    def test_a_bad_stand_is_told_ahead_of_a_bad_move(self):
        for value in VALUES:
            self.refuses(BadStand, ((1, 3), 0), after, HOUSE, ((1, 3), 0), value)

    def test_what_is_no_possible_move(self):
        stand = ((1, 2), 0)
        bad = [value for value in VALUES if value != NIGHT] + [
            do("x", "ann", True), do("x", "ann", False), do("x", "ann", 2), do("x", "ann", -1), do("x", "ann", None),
            do("x", "zoe"), do("x", "cy"), do("x", None), do("y", "ann"), do("y", "zoe", 3), do("b", "ann"),
            do("z", "ann"), do(None, "ann"), do("x", ["ann"]), do(["x"], "ann"), do("x", "ann", [0]),
            ("do", "x", "ann"), ("do", "x", "ann", 0, 0), ["do", "x", "ann", 0], ("did", "x", "ann", 0), ("night", 0),
            ["night"], "night", (None, "x", "ann", 0), do("x", ("ann",)), do({}, "ann"), ("do",)]
        for value in bad:
            with self.subTest(value=value):
                self.refuses(NoMove, value, after, HOUSE, stand, value)
                self.refuses(NoMove, value, after, house=HOUSE, stand=stand, move=value)


class LedTest(Case):

    def test_the_empty_run(self):
        self.same(led(HOUSE, ()), (((1, 2), 0), ()))

    def test_a_run_with_nights(self):
        run = (do("y", "zoe", 0), NIGHT, do("b", "ann"), do("x", "ann", 1), NIGHT, NIGHT, do("b", "zoe"))
        # c 1 -> 3; d 2 -> 1, c 3 + 1 -> 0; d 1 -> 0, c stays.
        self.same(led(HOUSE, run), (((0, 0), 1), (
            (("m", (3, 2, "ann")), ("k", ("zoe", 0))), (), (("l", ()),), (), (), (), (("l", ()),))))
        self.same(led(HOUSE, run[:4]), (((0, 1), 2), (
            (("m", (3, 2, "ann")), ("k", ("zoe", 0))), (), (("l", ()),), ())))

    def test_it_goes_as_after_goes(self):
        run = (do("y", "zoe", 0), do("b", "zoe"), NIGHT, do("x", "ann"), do("b", "ann"), NIGHT)
        stand, book = first_stand(HOUSE), []
        for number, move in enumerate(run):
            stand, rows = after(HOUSE, stand, move)
            book.append(rows)
            self.same(led(HOUSE, run[:number + 1]), (stand, tuple(book)))

    def test_what_is_no_tuple(self):
        for value in VALUES + ([NIGHT], "night"):
            if not isinstance(value, tuple):
                self.refuses(BadRun, 0, led, HOUSE, value)
                self.refuses(BadRun, 0, led, house=HOUSE, run=value)

    def test_the_first_move_that_is_not_possible(self):
        x = do("x", "ann")
        for run, number in (
                ((do("b", "ann"),), 1), ((x, x, x), 3), ((x, x, NIGHT, x, x, x, NIGHT, x), 6), ((NIGHT, None, None), 2),
                ((x, do("y", "zoe", True)), 2), ((x, ["night"]), 2), (NIGHT, 1), ((NIGHT, NIGHT, NIGHT, (NIGHT,)), 4),
                ((do("y", "zoe", 0), do("y", "zoe", 0)), 2), ((x, NIGHT, do("x", "zoe")), 3),
                ((do("x", "ann", False),), 1)):
            with self.subTest(run=run):
                self.refuses(BadRun, number, led, HOUSE, run)

    def test_values_of_every_kind_as_moves(self):
        for value in VALUES:
            if value != NIGHT:
                self.refuses(BadRun, 2, led, HOUSE, (NIGHT, value, None))
