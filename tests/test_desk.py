from givenout.desk import Desk, answer_text, given_text
from givenout.errors import (
    BadGuards, BadLine, BadNumber, BadText, NoMove, NothingToRedo, NothingToUndo, Telling, TooMany)
from givenout.houses import House
from givenout.offices import Office
from givenout.rules import Rules
from givenout.stands import moves
from givenout.texts import show_ask, show_change, show_item, show_move
from tests.helpers import BIG, FULL, SMALL, VALUES, Case
from tests.made import some

HOUSE = House(SMALL)
NUMBER = Rules(HOUSE, "reader r\n  kind k\n    number w")
BY_A = ("done", "x", "a", None)
GUARD = (("r",), ((BY_A, "yes"),), ((),))
FULL_HOUSE = House(FULL)
ALL = Rules(FULL_HOUSE, "reader a\n  is ann\n  nights\n  kind k\n    number w\n    blank v\n  kind l\n    counted 2\n"
                        "reader b\n  kind m\n    nightly\nreader c\n  is bob\n  kind k\n  kind l")

NO_LINES = (
    "", " ", "do", "do x a", "do x a 00", "do x a -", "do x a 0 ", " do x a 0", "do  x a 0", "do x a 0 0",
    "do x a 1234567890", "Do x a 0", "night ", " night", "nights", "night 0", "night\n", "\nnight", "do x a 0\nnight",
    "may", "may ", "may x", "may undo", "may do x a", "may night 0", "may may night", "may  night", "undo 1", "undo ",
    "Undo", "redo 0", "undo redo", "moves 0", "moves ", "move", "way", "way ", "way x", "way 00", "way -1", "way 0 0",
    "way 0 ", "way 01", "way 1234567890", "ways 0", "known", "known 0", "known 0 ", "known x done x a -",
    "known done x a -", "known 00 done x a -", "known -1 done x a -", "known 0 done x a", "known 0 done z a -",
    "known 0 done x a - -", "known 0 now c 2", "known 0 not not not not now c 1", "known 0  done x a -", "known 0 yes",
    "knows 0 done x a -", "cases 0 done x a -", "done x a -", "0 done x a -", "stand 0", "stand ", "stands", "cases",
    "cases x", "cases 0 0", "cases 00", "case 0", "keep", "trial", "change", "rules", "run", "guards", "journal",
    "known 0 done x a 1", "way\t0", "undo\t", "0", "-", "?", "known 0 who x a", "do X a 0", "do x abcdefghi 0")


def desk_of(rules, *guards):
    """A desk of a new office."""
    return Desk(Office(rules, guards=guards).journal)


class DeskCase(Case):

    def refused(self, desk, line, error, *told):
        """The line is refused so, and nothing is changed."""
        before = (desk.office.journal, desk.office.run, desk.office.stand, desk.office.ways, desk.office.out)
        with self.assertRaises(error) as caught:
            desk.say(line)
        self.assertIs(type(caught.exception), error)
        self.same(list(vars(caught.exception).values()), list(told))
        self.same((desk.office.journal, desk.office.run, desk.office.stand, desk.office.ways, desk.office.out), before)
        return caught.exception

    def says(self, desk, *rows):
        """Each line is answered so."""
        for line, told in rows:
            self.same((line, desk.say(line)), (line, told))


class SayTest(DeskCase):

    def test_each_line(self):
        self.says(desk_of(NUMBER, GUARD), ("stand", "0 0"), ("cases 0", "1"), ("way 0", "-"),
                  ("moves", "do x a 0; do x b 0; night"), ("may do x b 0", "r: row k #0"), ("stand", "0 0"),
                  ("known 0 done x a -", "no"), ("known 0 who x", "-"), ("known 0 times x 2", "0"),
                  ("do x b 0", "r: row k #0"), ("stand", "0 1"), ("moves", "night"), ("way 0", "silence"),
                  ("cases 0", "2"), ("known 0 done x a -", "no / yes"), ("known 0 who x", "a / b"),
                  ("known 0 times x 3", "1 / 2 / 3"), ("known 0 worth c", "0"), ("may night", "-"), ("night", "-"),
                  ("do x a 0", "-"), ("undo", "done"), ("stand", "0 0"), ("redo", "done"), ("stand", "0 1"),
                  ("undo", "done"), ("undo", "done"), ("undo", "done"), ("way 0", "-"), ("cases 0", "1"),
                  ("known 0 not last x b", "yes"), ("known 0 often x 2", "no"))

    def test_several_readers_and_items_of_every_kind(self):
        desk = Desk(Office(ALL).journal)
        self.says(desk, ("do y bob 0", "a: row k #0 - 1; c: did y 0, row k bob 3 1"),
                  ("do x ann 2", "a: did x 2, row k #1 - 1; c: row k ann 2 1, row l"),
                  ("moves", "do n ann 0; do n bob 0; "
                  "do n cy 0; do y ann 0; do y bob 0; do y cy 0; do z ann 0; do z bob 0; do z cy 0; night"),
                  ("stand", "3 1 1 2"), ("night", "a: count l 1, night"), ("night", "a: count l 0, night"),
                  ("do n cy 0", "-"), ("stand", "3 1 1 1"))

    def test_values_that_are_blank_and_numbers(self):
        rules = Rules(FULL_HOUSE, "reader a\n  kind k\n    blank w\n    coarse v 2\n    blank u\nreader b\n  kind k\n"
                                  "    number w\n    nightly")
        self.says(desk_of(rules), ("do y cy 0", "a: row k - 1 -"), ("do x ann 1", "a: row k - 0 -"),
                  ("night", "b: row k #0 3 1, row k #1 1 1"))

    def test_ways(self):
        ways = ((("blank", "r", "k", "w"), ("daily", "r")), (), (("hide", "r", "k"),), (("counted", "r", "k", 2),))
        for guard, told in (((("r",), GUARD[1], ways), "blank r k w; daily r"), ((("r",), GUARD[1], ways[1:]), "-"),
                            ((("r",), GUARD[1], ways[2:]), "hide r k"), ((("r",), GUARD[1], ways[3:]), "counted r k 2"),
                            ((("r",), GUARD[1], ()), "silence")):
            self.says(desk_of(NUMBER, guard), ("way 0", told))

    def test_two_guards_and_none(self):
        rules = Rules(HOUSE, "reader r\n  kind k\n    number w\nreader s\n  kind k")
        desk = desk_of(rules, GUARD, (("s",), ((BY_A, "yes"),), ()))
        self.says(desk, ("do x a 0", "r: row k #0"), ("way 0", "silence"), ("way 1", "silence"), ("cases 0", "2"),
                  ("cases 1", "1"),
                  ("known 0 who x", "a / b"), ("known 1 who x", "- / a / b"), ("known 1 done x b 0", "no / yes"))
        for line in ("way 2", "cases 2", "known 2 who x", "way 999999999"):
            self.refused(desk, line, BadNumber, int(line.split(" ")[1]))
        for line in ("way 0", "cases 0", "known 0 who x"):
            self.refused(desk_of(rules), line, BadNumber, 0)

    def test_lines_that_have_no_form(self):
        desk = desk_of(NUMBER, GUARD)
        desk.say("do x a 0")
        desk.say("night")
        desk.say("undo")
        for line in NO_LINES:
            self.assertIs(self.refused(desk, line, BadLine, line).value, line)
        for value in VALUES:
            if value != "night":
                self.assertIs(self.refused(desk, value, BadLine, value).value, value)
        self.says(desk, ("redo", "done"), ("stand", "0 0"))

    def test_ahead_of_errors_of_the_office(self):
        # There is no such guard, but the line has no form.
        for line in ("known 7 done z a -", "known 7 yes", "way 7 7"):
            self.refused(desk_of(NUMBER), line, BadLine, line)

    def test_errors_of_the_office(self):
        desk = desk_of(NUMBER, GUARD)
        self.refused(desk, "undo", NothingToUndo)
        self.refused(desk, "redo", NothingToRedo)
        for line, move in (("do x c 0", ("do", "x", "c", 0)), ("do z a 0", ("do", "z", "a", 0)),
                           ("do x a 1", ("do", "x", "a", 1)), ("do x a 999999999", ("do", "x", "a", 999999999)),
                           ("do a x 0", ("do", "a", "x", 0))):
            self.refused(desk, line, NoMove, move)
            self.refused(desk, "may " + line, NoMove, move)
        desk.say("do x a 0")
        self.refused(desk, "do x a 0", NoMove, ("do", "x", "a", 0))
        self.refused(desk, "redo", NothingToRedo)
        big = desk_of(Rules(House(BIG), "reader r"), (("r",), ((("now", "c", 1), "yes"),), ()))
        self.refused(big, "known 0 or or done x - 0 done x - 1 or done x - 2 done x - 3", TooMany, 2000)

    def test_may_changes_nothing(self):
        for made in some(60):
            try:
                desk = desk_of(made.rules, *made.guards())
            except Telling:
                continue
            for _ in range(6):
                move = made.one(*moves(made.house, desk.office.stand))
                before = desk.office.journal
                told = desk.say("may " + show_move(move))
                self.same(desk.office.journal, before)
                self.same(desk.say(show_move(move)), told)

    def test_beside_the_office(self):
        for made in some(100):
            guards = made.guards()
            try:
                office = Office(made.rules, guards=guards)
            except Telling:
                continue
            desk = Desk(office.journal)
            for _ in range(6):
                move, ask = made.one(*moves(made.house, office.stand)), made.ask()
                given = office.do(move)
                told = [reader + ": " + ", ".join(map(show_item, items)) for reader, items in given if items]
                self.same(desk.say(show_move(move)), "; ".join(told) or "-")
                self.same(desk.say("moves"), "; ".join(map(show_move, moves(made.house, office.stand))))
                self.same(desk.say("stand"), " ".join(map(str, office.stand[0] + office.stand[1:])))
                for number, (_, _, ways) in enumerate(office.guards):
                    way = office.ways[number]
                    self.same(desk.say(f"way {number}"), "silence" if way == len(ways) else
                              "; ".join(map(show_change, ways[way])) or "-")
                    self.same(desk.say(f"cases {number}"), str(len(office.threads[number])))
                    known = [{True: "yes", False: "no", "": "-"}.get(given, str(given)) if isinstance(given,
                                                                                                      (bool, str))
                             else str(given) for given in office.known(number, ask)]
                    self.same(desk.say(f"known {number} {show_ask(made.house, ask)}"), " / ".join(known))
            self.assertEqual(desk.office, office)

    def test_texts_of_what_is_given_and_answered(self):
        self.same(given_text((("q", ()), ("r", (("night",), ("did", "x", 2))), ("s", (("k", ("-", -1, 0)),)))),
                  "r: night, did x 2; s: row k - - 0")
        self.same([given_text(()), given_text((("q", ()),))], ["-", "-"])
        self.same([answer_text(given) for given in (True, False, 0, 3, "", "ann")], ["yes", "no", "0", "3", "-", "ann"])


class DeskTest(DeskCase):

    def test_journals(self):
        office = Office(NUMBER, guards=(GUARD,))
        office.do(("do", "x", "a", 0))
        office.change(NUMBER)
        desk = Desk(office.journal)
        self.assertEqual(desk.office, office)
        self.assertIsInstance(desk.office, Office)
        self.assertIn("office", vars(desk))
        self.says(desk, ("undo", "done"), ("undo", "done"), ("stand", "0 0"))
        # Offices go on by themselves.
        self.same(office.run, (("do", "x", "a", 0),))
        desk.office.do(("night",))
        self.says(desk, ("undo", "done"))

    def test_texts_that_are_none(self):
        text = Office(NUMBER, guards=(GUARD,)).journal
        for value in VALUES:
            self.refuses(BadText, 1 if isinstance(value, str) else 0, Desk, value)
        self.refuses(BadText, len(text.split("\n")) + 1, Desk, text + "\n  do x")
        with self.assertRaises(NoMove):
            Desk(text + "\n  do x c 0")
        with self.assertRaises(BadGuards):
            Desk(text.replace("guard r", "guard s"))
        self.refuses(Telling, 0, Desk, text.replace("reader r", "reader r\n    is a"))

    def test_by_the_names_of_the_document(self):
        desk = Desk(text=Office(NUMBER).journal)
        self.same([desk.say(line="stand"), desk.say("stand")], ["0 0", "0 0"])
