"""The whole program: what one part tells beside what another one does."""

import unittest

from givenout import errors
from givenout.asks import answer
from givenout.changes import with_changes
from givenout.cheapest import cheapest, shows_cheapest
from givenout.counting import many
from givenout.desk import Desk
from givenout.errors import GivenError, Telling, TooMany
from givenout.finer import finer
from givenout.giving import view
from givenout.houses import House
from givenout.journals import read_journal
from givenout.keeping import kept
from givenout.knowing import answers, course, lore
from givenout.needing import needed
from givenout.offices import Office
from givenout.reading import read_ask, read_change, read_run, read_view
from givenout.rules import Rules
from givenout.stands import led, moves
from givenout.telling import told
from givenout.texts import show_ask, show_change, show_move, show_run, show_view
from givenout.ways import held
from tests.helpers import Case
from tests.made import some

LIBRARY = """people ann bob cy
cell shelf 4 0
cell late 2 0
kind loan
  who reader
  worth book 4
kind back
  worth book 4
deed borrow
  if late = 0
  pick 4
  set shelf it
  set late 1
  row loan who it
deed return
  if late = 1
  set late 0
  row back shelf
day 2"""
RULES = "reader board\n  nights\n  kind loan\n    number reader\n    coarse book 2\nreader clerk\n  is ann\n  kind back"


class StoryTest(Case):

    def test_from_texts_to_a_desk(self):
        house = House(LIBRARY)
        rules = Rules(house, RULES)
        run = read_run(house, "do borrow bob 3\ndo return cy 0\nnight\ndo borrow ann 0")
        text = show_view(rules, rules.readers, view(rules, rules.readers, run))
        self.same(text.split("\n"), [
            "part", "  reader board", "    row loan #0 1", "part", "  reader clerk", "    row back 3", "part",
            "  reader board", "    night", "part", "  reader board", "    row loan #1 0", "  reader clerk",
            "    did borrow 0"])
        seen = read_view(rules, rules.readers, text)
        self.same([given for given, _ in answers(rules, rules.readers, ("last", "borrow", "ann"), seen)[0]], [True])
        ask = read_ask(house, "done borrow bob 3")
        self.same(course(rules, ("board",), ask, run)[-1], (False, True))
        self.same(course(rules, ("board", "clerk"), ask, run)[-1], (False, True))
        self.same([pool for pool, _ in told(rules, ask, run)[1]], [("board", "clerk")])
        # Who borrowed what is kept from the board, though not from the clerk beside it.
        secrets = ((("done", "borrow", "ann", None), "yes"),)
        self.same(kept(rules, ("board",), secrets)[0], "out")
        self.same(kept(rules, ("clerk",), secrets)[0], "out")
        ways = ((), (read_change("blank board loan reader"),))
        self.same(held(rules, ("board",), secrets, ways)[0], "held")
        self.same(held(rules, ("clerk",), secrets, ())[0], "lost")
        office = Office(rules, guards=((("board",), secrets, ways),))
        self.refuses(Telling, 1, Office, rules, guards=((("board",), secrets, ways), (("clerk",), secrets, ())))
        for move in run:
            office.do(move)
        desk = Desk(office.journal)
        self.same([desk.say(line) for line in ("way 0", "stand", "may do return cy 0", "known 0 done borrow ann -")],
                  [desk.say("way 0"), "0 1 1", "clerk: row back 0", "no / yes"])
        self.assertEqual(desk.office, office)
        self.same(show_run(house, desk.office.run), show_run(house, run))

    def test_the_cheapest_changes_are_a_way(self):
        house = House(LIBRARY.replace("ann bob cy", "ann bob").replace("day 2", "day 1"))
        rules = Rules(house, "reader board\n  kind loan\n    number reader\n    blank book")
        done = ("done", "borrow", "ann", None)
        offers = ((("blank", "board", "loan", "reader"), 2), (("hide", "board", "loan"), 1))
        needs = ((("board",), ("done", "borrow", None, None)),)
        secrets = ((("board",), done, "yes"),)
        found = cheapest(rules, secrets, needs, offers)
        self.same(found[:3], ("choice", 2, (("blank", "board", "loan", "reader"),)))
        self.same(shows_cheapest(rules, secrets, needs, offers, found), True)
        self.same(held(rules, ("board",), ((done, "yes"),), (found[2],))[0], "held")
        self.same(finer(rules, ("board",), with_changes(rules, found[2]), ("board",))[0], "finer")


class PartsTest(Case):

    def test_offices_without_guards_give_as_views_tell(self):
        for made in some(60):
            office, run, pool = Office(made.rules), made.run(8), made.pool()
            for move in run:
                self.same(move in moves(made.house, office.stand), True)
                office.do(move)
            shown = [tuple([dict(entry)[reader] for reader in pool]) for entry in office.out]
            self.same(tuple([part for part in shown if any(part)]), view(made.rules, pool, run))
            self.same(office.stand, led(made.house, office.run)[0])
            self.same(view(made.rules, pool, office.run), view(made.rules, pool, run))

    def test_what_guards_that_stay_by_the_rules_know(self):
        # What is kept by the rules is given by them, and known is what answers and course tell.
        alike = 0
        for made in some(150):
            pool, secrets, ask, run = made.pool(), made.secrets(), made.ask(), made.run(8)
            if kept(made.rules, pool, secrets)[0] == "kept":
                office = Office(made.rules, guards=((pool, secrets, ((),)),))
                known = [office.known(0, ask)]
                for move in run:
                    office.do(move)
                    known.append(office.known(0, ask))
                self.same((tuple(known), office.ways), (course(made.rules, pool, ask, run), (0,)))
                rows = answers(made.rules, pool, ask, view(made.rules, pool, run))[0]
                self.same(tuple([given for given, _ in rows]), known[-1])
                asks = tuple([formula for formula, _ in secrets])
                told_lore = lore(made.rules, pool, asks, view(made.rules, pool, run))
                self.same(set(office.threads[0]) <= set(told_lore), True)
                alike += 1
        self.assertGreater(alike, 40)

    def test_who_knows_and_who_is_told(self):
        for made in some(60):
            ask, run = made.ask(), made.run(6)
            knowing, unsure = told(made.rules, ask, run)
            for pool, _ in knowing:
                self.same(course(made.rules, pool, ask, run)[-1], (answer(made.house, run, ask),))
            for pool, other in unsure:
                self.assertIn(answer(made.house, other, ask), course(made.rules, pool, ask, run)[-1])
                self.same(needed(made.rules, pool, ask)[0], "open")

    def test_counts_add_up(self):
        for made in some(60):
            pool, run = made.pool(), made.run(4)
            seen = view(made.rules, pool, run)
            sums = [sum([runs for _, runs in many(made.rules, pool, ask, seen, 5)]) for ask in
                    (made.ask(), made.ask(), ("worth", "c"))]
            self.same(len(set(sums)), 1)

    def test_all_that_is_written_is_read_back(self):
        for made in some(60):
            pool, run, ask = made.pool(), made.run(8), made.ask()
            self.same(read_run(made.house, show_run(made.house, run)), run)
            self.same(read_ask(made.house, show_ask(made.house, ask)), ask)
            seen = view(made.rules, pool, run)
            self.same(read_view(made.rules, pool, show_view(made.rules, pool, seen)), seen)
            for change in made.changes(pool):
                self.same(read_change(show_change(change)), change)
            office = Office(made.rules)
            for move in run:
                office.do(move)
            self.same(office.journal.split("\n")[-len(run) or len(office.journal):],
                      ["  " + show_move(move) for move in run])
            self.assertEqual(read_journal(office.journal), office)

    def test_what_cannot_be_held_is_not_kept(self):
        seen = 0
        for made in some(100, numbers=False):
            pool, secrets = made.pool(), made.secrets()
            try:
                if held(made.rules, pool, secrets, ((),))[0] == "lost":
                    self.same(kept(made.rules, pool, secrets)[0], "out")
                    seen += 1
            except TooMany:
                pass
        self.assertGreater(seen, 20)


class InterfaceTest(unittest.TestCase):

    NAMES = {
        "houses": "House", "stands": "first_stand moves after led", "rules": "Rules",
        "giving": "first_memory gives view",
        "asks": "is_ask is_formula answer", "cases": "first_case cases_behind",
        "knowing": "lore answers shows_answers course", "counting": "many enough", "keeping": "kept shows_kept",
        "needing": "needed shows_needed", "waiting": "waiting shows_waiting", "changes": "with_changes",
        "cheapest": "cheapest shows_cheapest", "finer": "finer shows_finer", "telling": "told shows_told",
        "ways": "held shows_held", "offices": "Office", "texts": "show_run show_view show_ask show_change",
        "reading": "read_run read_view read_ask read_change", "journals": "read_journal", "desk": "Desk"}

    def test_each_name_is_defined_in_its_file(self):
        for file, names in self.NAMES.items():
            module = __import__(f"givenout.{file}", fromlist=[file])
            for name in names.split():
                self.assertEqual(getattr(module, name).__module__, f"givenout.{file}")

    def test_methods_are_defined_in_their_classes(self):
        for name in ("__init__", "do", "may_give", "change", "__iter__", "known", "undo", "redo", "trial", "keep",
                     "tried",
                     "copy", "__eq__"):
            self.assertIn(name, vars(Office))
        for name in ("__init__", "say"):
            self.assertIn(name, vars(Desk))

    def test_all_errors_are_given_errors(self):
        for name, error in vars(errors).items():
            if isinstance(error, type) and error is not GivenError:
                self.assertEqual(error.__bases__, (GivenError,), name)


if __name__ == "__main__":
    unittest.main()
