from givenout.errors import BadText
from givenout.houses import House
from tests.helpers import FULL, SMALL, VALUES, Case, first_wrong, replaced


class HouseTest(Case):

    def test_the_example(self):
        house = House(SMALL)
        self.same(house.text, SMALL)
        self.same(house.people, ("a", "b"))
        self.same(house.cells, (("c", 2, 0),))
        self.same(house.kinds, (("k", (("w", None),)),))
        self.same(house.deeds, (("x", ("a", "b"), 1),))
        self.same(house.day, 1)

    def test_a_full_house(self):
        house = House(FULL)
        self.same(house.text, FULL)
        self.same(house.people, ("ann", "bob", "cy"))
        self.same(house.cells, (("c", 4, 3), ("d", 2, 0), ("e", 3, 1)))
        self.same(house.kinds, (("k", (("w", None), ("v", 4), ("u", 2))), ("l", ()), ("m", (("v", 3),))))
        everybody = ("ann", "bob", "cy")
        self.same(house.deeds, (
            ("x", ("ann", "cy"), 3), ("y", everybody, 1), ("z", everybody, 1), ("n", everybody, 1)))
        self.same(house.day, 3)

    def test_the_text_by_its_name(self):
        self.same(House(text=FULL).deeds, House(FULL).deeds)

    def test_the_least_house(self):
        house = House("people a\ncell c 2 1\ndeed x\nday 1")
        self.same((house.people, house.cells, house.kinds), (("a",), (("c", 2, 1),), ()))
        self.same((house.deeds, house.day), ((("x", ("a",), 1),), 1))

    def test_people_and_sizes_up_to_their_limits(self):
        for people in ("a", "a b", "b a", "a b c", "c b a"):
            self.same(House(replaced(SMALL, 1, f"people {people}")).people, tuple(people.split()))
        for size in (2, 3, 4):
            for first in range(size):
                self.same(House(replaced(SMALL, 2, f"cell c {size} {first}")).cells, (("c", size, first),))
            self.same(House(f"people a\ncell c 2 0\nkind k\n  worth w {size}\ndeed x\nday 1").kinds,
                      (("k", (("w", size),)),))
            self.same(House(replaced(SMALL, 6, f"  pick {size}")).deeds, (("x", ("a", "b"), size),))

    def test_one_to_three_or_four_lines_of_a_sort(self):
        for many in (0, 1, 2, 3):
            kinds = [f"kind {name}" for name in "klm"[:many]]
            told = tuple([(name, ()) for name in "klm"[:many]])
            self.same(House("\n".join(["people a", "cell c 2 0"] + kinds + ["deed x", "day 1"])).kinds, told)
            fields = [f"  who {name}" for name in "klm"[:many]]
            told = (("k", tuple([(name, None) for name in "klm"[:many]])),)
            self.same(House("\n".join(["people a", "cell c 2 0", "kind k"] + fields + ["deed x", "day 1"])).kinds, told)
        for many in (1, 2, 3):
            cells = [f"cell {name} 2 0" for name in "cde"[:many]]
            self.same(House(replaced(SMALL, 2, *cells)).cells, tuple([(name, 2, 0) for name in "cde"[:many]]))
            self.same(House(replaced(SMALL, 7, f"day {many}")).day, many)
        for many in (1, 2, 3, 4):
            deeds = [f"deed {name}" for name in "zyxw"[:many]]
            told = tuple([(name, ("a",), 1) for name in "zyxw"[:many]])
            self.same(House("\n".join(["people a", "cell c 2 0"] + deeds + ["day 1"])).deeds, told)

    def test_by_in_any_sequence_is_told_in_that_of_the_house(self):
        for by, told in (("cy", ("cy",)), ("cy ann", ("ann", "cy")), ("bob cy ann", ("ann", "bob", "cy"))):
            self.same(House(replaced(FULL, 13, f"  by {by}")).deeds[0], ("x", told, 3))

    def test_lines_may_be_left_out(self):
        for number in (6, 8, 11, 13, 14, 15, 17, 18, 19, 20, 21, 23, 25):
            text = replaced(FULL, number)
            if number in (6, 8):
                text = text.replace("  row k who it d\n", "").replace("  row k bob c 1\n", "")
            self.same(House(text).text, text)

    def test_names_may_be_words_of_lines(self):
        text = "\n".join((
            "people it by day", "cell who 4 0", "cell set 4 3", "cell night 4 1", "kind kind", "  who who",
            "  worth worth 4", "  worth row 4", "kind it", "kind deed", "deed deed", "  by by", "  if set = 3",
            "  pick 4", "  set who it", "  add set who", "  row kind it who set", "  row it", "deed night", "  by it",
            "  row kind who it night", "deed do", "deed cell", "day 1"))
        house = House(text)
        self.same(house.people, ("it", "by", "day"))
        self.same(house.kinds[0], ("kind", (("who", None), ("worth", 4), ("row", 4))))
        self.same(house.deeds, (
            ("deed", ("by",), 4), ("night", ("it",), 1), ("do", ("it", "by", "day"), 1),
            ("cell", ("it", "by", "day"), 1)))

    def test_names_up_to_eight_letters(self):
        text = SMALL.replace("people a b", "people abcdefgh z").replace("deed x", "deed zyxwvuts")
        self.same(House(text).deeds, (("zyxwvuts", ("abcdefgh", "z"), 1),))

    def test_fields_of_two_kinds_and_other_sorts_of_names_may_be_alike(self):
        house = House("people c\ncell c 2 0\nkind c\n  who c\nkind d\n  worth c 2\ndeed c\n  row c c\n  row d c\nday 1")
        self.same(house.kinds, (("c", (("c", None),)), ("d", (("c", 2),))))

    def test_equality(self):
        self.assertTrue(House(FULL) == House(FULL))
        self.assertFalse(House(FULL) != House(FULL))
        self.assertFalse(House(FULL) == House(SMALL))
        self.assertTrue(House(FULL) != House(SMALL))
        self.assertFalse(House(replaced(FULL, 13, "  by ann cy")) == House(FULL))
        house = House(SMALL)
        for value in VALUES + (SMALL, [house], (house,)):
            self.assertFalse(house == value)
            self.assertFalse(value == house)
            self.assertTrue(house != value)


BROKEN = (
    (1, "people"), (1, "people "), (1, "people ann ann"), (1, "people ann bob cy dot"), (1, "people who ann bob"),
    (1, "people ann  bob cy"), (1, "people ann bob cy "), (1, " people ann bob cy"), (1, "  people ann bob cy"),
    (1, "people ann\tbob cy"), (1, "people Ann bob cy"), (1, "people ann bob abcdefghi"), (1, "people ann bob c2"),
    (1, "people ann bob c-"), (1, "person ann bob cy"), (1, ""), (1, "cell c 4 3"), (1, "PEOPLE ann bob cy"),
    (2, "cell c 4"), (2, "cell c 4 3 1"), (2, "cell c  4 3"), (2, "cell c 4 3 "), (2, "  cell c 4 3"),
    (2, " cell c 4 3"), (2, "cell c 1 0"), (2, "cell c 5 3"), (2, "cell c 0 0"), (2, "cell c 4 4"),
    (2, "cell c 4 -1"), (2, "cell c 04 3"), (2, "cell c 4 03"), (2, "cell c 4 x"), (2, "cell c four 3"),
    (2, "cell it 4 3"), (2, "cell abcdefghi 4 3"), (2, "cell C 4 3"), (2, "cell 1 4 3"), (2, "cell\tc 4 3"),
    (2, "cell"), (2, "people ann"), (2, "cells c 4 3"), (2, "cell c 4 1000000000"), (2, "cell c +4 3"),
    (2, "cell c 4 3\t"),
    (3, "cell c 2 0"), (3, "cell d 2 2"),
    (4, "cell d 3 1"), (4, "cell e 3 1\ncell f 2 0"),
    (5, "kind"), (5, "kind k k"), (5, "kind K"), (5, "  kind k"), (5, "kind k "), (5, "kind  k"),
    (5, "kind abcdefghi"), (5, "day 1"), (5, "row k"), (5, "  who w"), (5, "kind k2"),
    (6, "  who"), (6, "  who w 2"), (6, "who w"), (6, " who w"), (6, "   who w"), (6, "    who w"), (6, "\twho w"),
    (6, "  who  w"), (6, "  who w "), (6, "  who W"), (6, "  person w"), (6, "  who abcdefghi"), (6, "  by ann"),
    (6, ""), (6, "  "),
    (7, "  worth v"), (7, "  worth v 1"), (7, "  worth v 5"), (7, "  worth v 04"), (7, "  worth v 4 1"),
    (7, "  worth w 4"), (7, "  worth v x"), (7, "  who w"), (7, "  worth V 4"),
    (8, "  worth v 2"), (8, "  worth w 2"), (8, "  worth u 2\n  who x"), (8, "  worth u 2\n  worth x 2"),
    (9, "kind k"),
    (10, "kind k"), (10, "kind l"),
    (11, "  worth v 3\nkind o"), (11, "  worth v 3\ncell f 2 0"),
    (12, "deed"), (12, "deed x y"), (12, "deed X"), (12, "  deed x"), (12, "deed x "), (12, "deed abcdefghi"),
    (12, "  by ann"), (12, "people a"),
    (13, "  by"), (13, "  by "), (13, "  by dot"), (13, "  by ann ann"), (13, "  by ann bob cy ann"),
    (13, "by ann"), (13, "    by ann"), (13, "  by  ann"), (13, "  by ann "), (13, "  by who"),
    (13, "  by ann\n  by cy"), (13, "  by Ann"),
    (14, "  if c"), (14, "  if c ="), (14, "  if c = 4"), (14, "  if c == 3"), (14, "  if c < 3"),
    (14, "  if f = 3"), (14, "  if c = 3 "), (14, "  if c = 03"), (14, "  if c = d"), (14, "  if c = it"),
    (14, "if c = 3"), (14, "  if c=3"), (14, "  if c = 3 1"), (14, "  if it = 3"), (14, "  if c = -1"),
    (14, "  if c  = 3"), (14, "  when c = 3"),
    (15, "  if d != 2"), (15, "  if d != 1\n  if d != 1"), (15, "  if d ! 1"),
    (16, "  pick"), (16, "  pick 1"), (16, "  pick 5"), (16, "  pick 03"), (16, "  pick 3 3"), (16, "  pick x"),
    (16, "  pick 3\n  pick 3"), (16, "  pick 3\n  if c = 3"), (16, "  pick 3\n  by ann"), (16, "pick 3"),
    (17, "  set"), (17, "  set c"), (17, "  set c 4"), (17, "  set c it 1"), (17, "  set f it"), (17, "  set d it"),
    (17, "  set c f"), (17, "  set c who"), (17, "  set c ann"), (17, "  set it 1"), (17, "  set c 03"),
    (17, "  set c -1"), (17, "set c it"), (17, "    set c it"), (17, "  set  c it"), (17, "  set c it "),
    (17, "  put c it"), (17, "  set c it\n  pick 3"), (17, "  set c it\n  if c = 3"), (17, "  set c it\n  by ann"),
    (18, "  add d 2"), (18, "  add d c"), (18, "  add d e"), (18, "  add d it"), (18, "  add d"), (18, "  add f 1"),
    (19, "  add e c"), (19, "  set e 3"), (19, "  add c e\n  add c e"), (19, "  add c e\n  set c 1"),
    (20, "  row"), (20, "  row "), (20, "  row k"), (20, "  row k who it"), (20, "  row k who it d d"),
    (20, "  row o who it d"), (20, "  row k dot it d"), (20, "  row k it it d"), (20, "  row k 0 it d"),
    (20, "  row k c it d"), (20, "  row k who who d"), (20, "  row k who ann d"), (20, "  row k who it it"),
    (20, "  row k who it c"), (20, "  row k who it 2"), (20, "  row k who 4 d"), (20, "  row k who 01 d"),
    (20, "  row k who it d "), (20, "  row k  who it d"), (20, "row k who it d"), (20, "  row K who it d"),
    (20, "  row k who it e"),
    (21, "  row l l"), (21, "  row l "), (21, "  row l\n  row l"), (21, "  row l\n  set c 1"),
    (21, "  row l\n  pick 2"), (21, "  row l\n  by ann"), (21, "  row m 3"), (21, "  row m it it"),
    (21, "  row m c"), (21, "  row m w"),
    (22, "deed x"), (22, "kind o"),
    (24, "deed x"), (24, "deed y"),
    (26, "deed z"), (26, "deed n\ndeed o"), (26, "deed n\n  if d = 1\n  if d = 2"),
    (27, "day"), (27, "day 0"), (27, "day 4"), (27, "day 03"), (27, "day 3 3"), (27, "  day 3"), (27, " day 3"),
    (27, "day 3 "), (27, "day  3"), (27, "day x"), (27, "day 3\nday 3"), (27, "day 3\n"), (27, "day 3\n\n"),
    (27, "day 3\ndeed o"), (27, "day 3\n  by ann"), (27, "day 3\n "), (27, ""), (27, "night"), (27, "\n"),
    (27, "DAY 3"))


class BadHouseTest(Case):

    def bad(self, text, number):
        with self.subTest(text=text):
            self.refuses(BadText, number, House, text)
            self.refuses(BadText, number, House, text=text)

    def test_what_is_no_string(self):
        for value in VALUES:
            if not isinstance(value, str):
                self.bad(value, 0)

    def test_strings_that_are_no_house(self):
        for value in VALUES:
            if isinstance(value, str):
                self.bad(value, 1)

    def test_a_broken_line_is_told_by_its_number(self):
        for number, rows in BROKEN:
            self.bad(replaced(FULL, number, rows), number + first_wrong(rows))

    def test_lines_that_are_missing_at_the_end(self):
        lines = FULL.split("\n")
        for many in range(1, len(lines)):
            self.bad("\n".join(lines[:many]), many + 1)
            self.bad("\n".join(lines[:many]) + "\n", many + 1)

    def test_the_empty_text_and_line_feeds_alone(self):
        for text in ("", "\n", "\n\n", "\n\n\n\n", "\n" + SMALL, " ", "\t", "  \n"):
            self.bad(text, 1)

    def test_a_line_exchanged_with_the_next_one(self):
        lines = FULL.split("\n")
        # Cells, tests and changes may stand in any sequence; so may rows, also of another deed.
        wrong = {1: 1, 4: 5, 5: 5, 6: 20, 7: 20, 8: 20, 9: 21, 10: 21, 11: 12, 12: 12, 13: 14, 15: 16, 16: 17, 19: 20,
                 22: 22, 23: 25, 24: 24, 26: 27}
        for number in range(1, len(lines)):
            text = "\n".join(lines[:number - 1] + [lines[number], lines[number - 1]] + lines[number + 1:])
            if number in wrong:
                self.bad(text, wrong[number])
            else:
                self.assertEqual(House(text).text, text)

    def test_a_line_twice(self):
        lines = FULL.split("\n")
        # Of tests, changes and rows it is the last one that is too many.
        wrong = {14: 16, 15: 16, 17: 20, 18: 20, 19: 20, 20: 22, 21: 22}
        for number in range(1, len(lines) + 1):
            text = "\n".join(lines[:number] + lines[number - 1:])
            if number in (23, 25):
                self.assertEqual(House(text).text, text)
            else:
                self.bad(text, wrong.get(number, number + 1))

    def test_a_pick_fits_where_it_stands(self):
        for pick, size, fits in ((2, 2, True), (3, 2, False), (4, 4, True), (4, 3, False), (2, 4, True)):
            for line in ("set c it", "add c it"):
                text = f"people a\ncell c {size} 0\ndeed x\n  pick {pick}\n  {line}\nday 1"
                if fits:
                    House(text)
                else:
                    self.bad(text, 5)

    def test_it_stands_without_pick(self):
        House("people a\ncell c 2 0\nkind k\n  worth v 2\ndeed x\n  set c it\n  add c it\n  row k it\nday 1")

    def test_a_cell_fits_where_it_stands(self):
        for one in (2, 3, 4):
            for other in (2, 3, 4):
                text = f"people a\ncell c {one} 0\ncell d {other} 0\nkind k\n  worth v {one}\ndeed x\n"
                for line, number in (("set c d", 7), ("add c d", 7), ("row k d", 7)):
                    if other <= one:
                        House(f"{text}  {line}\nday 1")
                    else:
                        self.bad(f"{text}  {line}\nday 1", number)

    def test_a_number_fits_where_it_stands(self):
        for size in (2, 3, 4):
            for number in range(6):
                text = f"people a\ncell c {size} 0\nkind k\n  worth v {size}\ndeed x\n"
                for line in ("set c", "add c", "row k", "if c =", "if c !="):
                    if number < size:
                        House(f"{text}  {line} {number}\nday 1")
                    else:
                        self.bad(f"{text}  {line} {number}\nday 1", 6)

    def test_something_missing_is_told_by_what_comes_in_its_place(self):
        self.bad("people a\ndeed x\nday 1", 2)
        self.bad("people a\nkind k\ndeed x\nday 1", 2)
        self.bad("people a\ncell c 2 0\nday 1", 3)
        self.bad("people a\ncell c 2 0\nkind k\nday 1", 4)
        self.bad("cell c 2 0\ndeed x\nday 1", 1)

    def test_what_is_named_stands_ahead(self):
        self.bad("people a\ncell c 2 0\ndeed x\n  row k\nkind k\nday 1", 4)
        self.bad("people a\ncell c 2 0\nkind k\ndeed x\n  row k\ncell d 2 0\nday 1", 6)
