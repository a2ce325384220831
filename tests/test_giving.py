from givenout.errors import BadMemory, BadMove, BadPool, BadReader, BadRows, BadRun
from givenout.giving import first_memory, gives, is_unseen, shown_along, view, view_of
from givenout.houses import House
from givenout.rules import Rules
from givenout.stands import led
from tests.helpers import FULL, SMALL, VALUES, Case

NIGHT = ("night",)

# The deeds write what the tests hand in; kind l has no fields, m has two people.
HOUSE = House("""people ann bob cy
cell c 4 0
cell d 2 0
kind k
  who w
  worth v 4
kind l
kind m
  who w
  worth u 3
  who x
deed x
  by ann cy
  pick 3
  set c it
  row k who c
  row m bob 2 who
deed y
  if d = 0
  row l
deed z
  add d 1
  row k ann it
  row k who 3
day 3""")

FIRST = ((), (), (0, 0, 0))


def do(deed, who, it=0):
    return ("do", deed, who, it)


def k(who, v):
    return ("k", (who, v))


def m(who, u, other):
    return ("m", (who, u, other))


L = ("l", ())
X = do("x", "ann", 1)


def rules_of(*lines):
    """Rules with one reader, r, and these lines."""
    return Rules(HOUSE, "\n".join(("reader r",) + lines))


class GivesTest(Case):

    def given(self, rules, memory, move, rows, items, behind):
        """Just this is given, and this is the memory behind it."""
        self.same(gives(rules, "r", memory, move, rows), (items, behind))

    def given_each(self, rules, *told):
        """Each of (move, rows, items, memory behind), one behind the other, from the first memory on."""
        memory = first_memory(HOUSE)
        for move, rows, items, behind in told:
            self.given(rules, memory, move, rows, items, behind)
            memory = behind

    def test_the_example(self):
        house = House(SMALL)
        rules = Rules(house, "reader r\n  kind k\n    number w")
        xa, xb = ("do", "x", "a", 0), ("do", "x", "b", 0)
        self.same(gives(rules, "r", first_memory(house), xb, (("k", ("b",)),)), ((("k", ("#0",)),), (("b",), (), (0,))))
        self.same(view(rules, ("r",), (xa, NIGHT, xb)), (((("k", ("#0",)),),), ((("k", ("#1",)),),)))

    def test_by_the_names_of_the_document(self):
        rules, rows = rules_of("  kind k"), (k("ann", 1),)
        self.same(first_memory(house=HOUSE), first_memory(HOUSE))
        self.same(gives(rows=rows, move=X, memory=FIRST, reader="r", rules=rules), gives(rules, "r", FIRST, X, rows))
        run = (X, NIGHT)
        self.same(view(run=run, pool=("r",), rules=rules), view(rules, ("r",), run))

    def test_the_first_memory(self):
        self.same(first_memory(HOUSE), FIRST)
        self.same(first_memory(House("people a\ncell c 2 0\ndeed x\nday 1")), ((), (), ()))

    def test_rows_of_given_kinds_alone_in_sequence(self):
        rows = (m("bob", 2, "ann"), k("ann", 1))
        self.given(rules_of(), FIRST, X, rows, (), FIRST)
        self.given(rules_of("  kind k"), FIRST, X, rows, rows[1:], FIRST)
        self.given(rules_of("  kind k", "  kind m"), FIRST, X, rows, rows, FIRST)
        self.given(rules_of("  kind k", "  kind m"), FIRST, X, rows[::-1], rows[::-1], FIRST)
        self.given(rules_of("  kind l"), FIRST, X, (L, L), (L, L), FIRST)
        self.given(rules_of("  kind l"), FIRST, X, (), (), FIRST)

    def test_rows_are_given_whatever_the_deed_writes(self):
        rules = rules_of("  kind k", "  kind l", "  kind m")
        for rows in ((), (L,), (k("cy", 3), L), (m("cy", 0, "cy"), m("cy", 0, "cy"))):
            for move in (do("x", "cy", 2), do("y", "bob"), do("z", "ann")):
                self.given(rules, FIRST, move, rows, rows, FIRST)

    def test_who_does_it_is_told_first(self):
        rules = rules_of("  is ann", "  kind k", "    blank w")
        rows = (k("ann", 1), k("bob", 2))
        self.given(rules, FIRST, X, rows, (("did", "x", 1), k("-", 1), k("-", 2)), FIRST)
        self.given(rules, FIRST, do("z", "ann"), (), (("did", "z", 0),), FIRST)
        self.given(rules, FIRST, do("x", "cy", 1), rows, (k("-", 1), k("-", 2)), FIRST)
        self.given(rules, FIRST, do("y", "bob"), (L,), (), FIRST)
        self.given(rules_of("  is cy"), FIRST, do("x", "cy", 2), (), (("did", "x", 2),), FIRST)
        self.given(rules_of(), FIRST, X, (), (), FIRST)

    def test_blank_and_coarse(self):
        rows = (k("ann", 3), m("bob", 2, "cy"))
        self.given(rules_of("  kind k", "    blank w", "    blank v", "  kind m", "    coarse u 2", "    blank x"),
                   FIRST, X, rows, (k("-", -1), m("bob", 1, "-")), FIRST)
        for n in (2, 3):
            for v in range(4):
                rules = rules_of("  kind k", f"    coarse v {n}")
                self.given(rules, FIRST, X, (k("bob", v),), (k("bob", v // n),), FIRST)
        self.given(rules_of("  kind k", "    blank v"), FIRST, X, (k("bob", 0),), (k("bob", -1),), FIRST)

    def test_numbers_come_in_the_sequence_of_the_rows(self):
        rules = rules_of("  kind k", "    number w", "  kind m", "    number w", "    number x")
        self.given_each(
            rules,
            (X, (k("cy", 1), k("ann", 2)), (k("#0", 1), k("#1", 2)), (("cy", "ann"), (), (0, 0, 0))),
            (X, (k("ann", 1), k("cy", 2)), (k("#1", 1), k("#0", 2)), (("cy", "ann"), (), (0, 0, 0))),
            (NIGHT, (), (), (("cy", "ann"), (), (0, 0, 0))),
            (X, (k("bob", 0),), (k("#2", 0),), (("cy", "ann", "bob"), (), (0, 0, 0))),
            (X, (m("ann", 0, "bob"),), (m("#1", 0, "#2"),), (("cy", "ann", "bob"), (), (0, 0, 0))))
        self.given(rules, FIRST, X, (m("cy", 0, "bob"), m("ann", 1, "cy")), (m("#0", 0, "#1"), m("#2", 1, "#0")),
                   (("cy", "bob", "ann"), (), (0, 0, 0)))

    def test_alike_people_have_one_number(self):
        rules = rules_of("  kind k", "    number w", "  kind m", "    number w", "    number x")
        self.given(rules, FIRST, X, (m("bob", 1, "bob"), k("bob", 1)), (m("#0", 1, "#0"), k("#0", 1)),
                   (("bob",), (), (0, 0, 0)))

    def test_only_fields_with_number_give_numbers(self):
        self.given(rules_of("  kind m", "    number x"), FIRST, X, (m("bob", 1, "cy"),), (m("bob", 1, "#0"),),
                   (("cy",), (), (0, 0, 0)))
        self.given(rules_of("  kind m", "    blank w", "    number x"), FIRST, X,
                   (m("bob", 1, "cy"), m("cy", 0, "ann")),
                   (m("-", 1, "#0"), m("-", 0, "#1")), (("cy", "ann"), (), (0, 0, 0)))

    def test_numbers_end_with_the_night_if_daily(self):
        rows, numbered = (k("cy", 1), k("ann", 2)), (("cy", "ann"), (), (0, 0, 0))
        given = (k("#0", 1), k("#1", 2))
        self.given_each(
            rules_of("  daily", "  kind k", "    number w"),
            (X, rows, given, numbered), (NIGHT, (), (), FIRST),
            (X, (k("ann", 1),), (k("#0", 1),), (("ann",), (), (0, 0, 0))))
        self.given(rules_of("  kind k"), numbered, NIGHT, (), (), numbered)
        self.given(rules_of("  daily"), numbered, NIGHT, (), (), FIRST)

    def test_only_lines_ask_for_the_rows_as_they_were_written(self):
        rows = (k("ann", 3), k("bob", 2))
        for lines, items in (
                (("    only w = ann",), (k("#0", 1),)), (("    only w != ann",), (k("#0", 1),)),
                (("    only v = 3",), (k("#0", 1),)), (("    only v = 1",), ()),
                (("    only v != 1",), (k("#0", 1), k("#1", 1))),
                (("    only w = ann", "    only v = 2"), ()), (("    only w = ann", "    only v = 3"), (k("#0", 1),)),
                (("    only v != 2", "    only v != 3"), ()), (("    only w = ann", "    only w = bob"), ()),
                (("    only w != cy", "    only v != 2"), (k("#0", 1),))):
            with self.subTest(lines=lines):
                rules = rules_of("  kind k", *lines, "    number w", "    coarse v 2")
                told, behind = gives(rules, "r", FIRST, X, rows)
                self.same(told, items)
                self.assertEqual(len(behind[0]), len(items))

    def test_who_is_not_let_is_not_numbered(self):
        self.given(rules_of("  kind k", "    only v = 2", "    number w"), FIRST, X, (k("ann", 3), k("bob", 2)),
                   (k("#0", 2),), (("bob",), (), (0, 0, 0)))

    def test_counted_up_to_the_most(self):
        for most in (1, 2, 3):
            rules = rules_of("  kind l", f"    counted {most}")
            memory = FIRST
            for many in range(1, 6):
                behind = ((), (), (0, min(many, most), 0))
                self.given(rules, memory, do("y", "bob"), (L,), (), behind)
                memory = behind
            self.given(rules, memory, NIGHT, (), (("count", "l", most),), FIRST)
            self.given(rules, FIRST, do("y", "bob"), (L, L), (), ((), (), (0, min(2, most), 0)))

    def test_what_is_not_let_is_not_counted(self):
        self.given(rules_of("  kind k", "    only w = bob", "    counted 3"), FIRST, X, (k("ann", 3), k("bob", 2)),
                   (), ((), (), (1, 0, 0)))
        self.given(rules_of("  kind k", "    counted 3"), FIRST, X, (k("ann", 3), L), (), ((), (), (1, 0, 0)))

    def test_nobody_is_numbered_by_counted_rows(self):
        self.given(rules_of("  kind k", "    counted 3", "  kind m", "    number x"), FIRST, X,
                   (k("ann", 3), m("ann", 1, "bob")),
                   (m("ann", 1, "#0"),), (("bob",), (), (1, 0, 0)))

    def test_counts_are_told_if_not_none_or_if_nights_are_told(self):
        lines = ("  kind k", "    counted 2", "  kind l", "    counted 3", "  kind m", "    counted 1")
        memory = ((), (), (0, 2, 1))
        self.given(rules_of(*lines), memory, NIGHT, (), (("count", "l", 2), ("count", "m", 1)), FIRST)
        self.given(rules_of(*lines), FIRST, NIGHT, (), (), FIRST)
        self.given(rules_of("  nights", *lines), memory, NIGHT, (),
                   (("count", "k", 0), ("count", "l", 2), ("count", "m", 1), NIGHT), FIRST)
        self.given(rules_of("  nights", *lines), FIRST, NIGHT, (),
                   (("count", "k", 0), ("count", "l", 0), ("count", "m", 0), NIGHT), FIRST)

    def test_nights_are_told(self):
        self.given(rules_of("  nights"), FIRST, NIGHT, (), (NIGHT,), FIRST)
        self.given(rules_of(), FIRST, NIGHT, (), (), FIRST)
        self.given(rules_of("  is ann"), FIRST, NIGHT, (), (), FIRST)
        self.given(rules_of("  nights", "  kind k"), FIRST, X, (k("ann", 3),), (k("ann", 3),), FIRST)

    def test_nightly_rows_are_given_at_night_sorted(self):
        rules = rules_of(
            "  kind k", "    number w", "    nightly", "  kind l", "  kind m", "    blank u", "    nightly")
        due = (k("#0", 1), k("#1", 2), m("bob", -1, "ann"))
        self.given_each(
            rules,
            (X, (m("bob", 2, "ann"), k("cy", 1)), (), (("cy",), (due[0], due[2]), (0, 0, 0))),
            (X, (L, k("ann", 2)), (L,), (("cy", "ann"), due, (0, 0, 0))),
            (X, (k("cy", 0), k("ann", 2)), (),
             (("cy", "ann"), (k("#0", 0), due[0], due[1], due[1], due[2]), (0, 0, 0))),
            (NIGHT, (), (k("#0", 0), due[0], due[1], due[1], due[2]), (("cy", "ann"), (), (0, 0, 0))),
            (NIGHT, (), (), (("cy", "ann"), (), (0, 0, 0))))

    def test_due_rows_are_numbered_as_they_are_made_ready(self):
        self.given_each(
            rules_of("  daily", "  kind k", "    number w", "    nightly", "  kind m", "    number w"),
            (X, (k("cy", 3), m("ann", 0, "bob")), (m("#1", 0, "bob"),), (("cy", "ann"), (k("#0", 3),), (0, 0, 0))),
            (X, (k("ann", 1),), (), (("cy", "ann"), (k("#0", 3), k("#1", 1)), (0, 0, 0))),
            (NIGHT, (), (k("#0", 3), k("#1", 1)), FIRST))

    def test_a_night_gives_rows_then_counts_then_itself(self):
        rules = rules_of("  is ann", "  daily", "  nights", "  kind k", "    nightly", "  kind l", "    counted 2")
        memory = (("ann",), (k("ann", 0), k("bob", 3)), (0, 1, 0))
        self.given(rules, memory, NIGHT, (), (k("ann", 0), k("bob", 3), ("count", "l", 1), NIGHT), FIRST)

    def test_memories_of_other_rules(self):
        # Due of kinds that are not nightly here is gone, counts are told up to the most that is counted here.
        memory = (("cy",), (k("#0", 3), L, L, m("-", -1, "#2")), (3, 3, 3))
        rules = rules_of("  kind k", "    counted 2", "  kind l", "    nightly")
        self.given(rules, memory, NIGHT, (), (L, L, ("count", "k", 2)), (("cy",), (), (0, 0, 0)))
        self.given(rules, memory, X, (k("ann", 1), L), (),
                   (("cy",), (k("#0", 3), L, L, L, m("-", -1, "#2")), (3, 3, 3)))
        self.given(rules_of(), memory, NIGHT, (), (), (("cy",), (), (0, 0, 0)))
        self.given(rules_of(), memory, X, (L,), (), memory)
        self.given(rules_of("  nights", "  kind l", "    counted 1"), memory, NIGHT, (), (("count", "l", 1), NIGHT),
                   (("cy",), (), (0, 0, 0)))
        self.given(rules_of("  kind k", "    number w"), memory, X, (k("ann", 1),), (k("#1", 1),),
                   (("cy", "ann"),) + memory[1:])
        self.given(rules_of("  kind l", "    counted 3"), ((), (), (0, 2, 3)), X, (L, L), (), ((), (), (0, 3, 3)))

    def test_each_reader_by_its_own_lines(self):
        rules = Rules(HOUSE, "reader a\n  kind k\nreader b\n  kind k\n    blank v\nreader c\n  nights")
        rows = (k("ann", 1),)
        for reader, items in (("a", rows), ("b", (k("ann", -1),)), ("c", ())):
            self.same(gives(rules, reader, FIRST, X, rows), (items, FIRST))
        for reader, items in (("a", ()), ("b", ()), ("c", (NIGHT,))):
            self.same(gives(rules, reader, FIRST, NIGHT, ()), (items, FIRST))

    def test_every_memory_by_its_form_is_taken(self):
        rules = rules_of("  kind k", "    nightly")
        for memory in (
                (("ann", "bob", "cy"), (), (0, 0, 0)), (("cy", "ann"), (), (3, 3, 3)), ((), (k("-", -1),), (1, 2, 3)),
                ((), (k("#0", 0), k("#1", 1), k("#2", 2), k("-", 3), k("ann", -1), k("ann", -1), L, L,
                      m("#0", -1, "#0")), (0, 0, 0))):
            gives(rules, "r", memory, NIGHT, ())


class RefusedTest(Case):

    RULES = rules_of("  kind k", "    number w", "  kind l", "    counted 2")

    def refused(self, error, value, reader="r", memory=FIRST, move=X, rows=()):
        """The error is raised with this very value."""
        with self.subTest(value=value):
            self.refuses(error, value, gives, self.RULES, reader, memory, move, rows)
            self.refuses(error, value, gives, rules=self.RULES, reader=reader, memory=memory, move=move, rows=rows)

    def test_what_is_no_reader(self):
        for value in VALUES + ("R", "rr", "ann", ("r",), ["r"], {"r": 1}):
            self.refused(BadReader, value, reader=value)

    def test_what_is_no_memory(self):
        bad = VALUES + (
            [(), (), (0, 0, 0)], ((), ()), ((), (), (0, 0, 0), ()), ((), (), (0, 0)), ((), (), (0, 0, 0, 0)),
            ((), (), [0, 0, 0]), ((), (), (0, True, 0)), ((), (), (0, 4, 0)), ((), (), (-1, 0, 0)),
            ((), (), (0, None, 0)),
            ((), (), ("0", 0, 0)), ((), (), 0), (["ann"], (), (0, 0, 0)), (("ann", "ann"), (), (0, 0, 0)),
            (("dot",), (), (0, 0, 0)), ((("ann",),), (), (0, 0, 0)), ((["ann"],), (), (0, 0, 0)),
            ("ann", (), (0, 0, 0)),
            ((None,), (), (0, 0, 0)), (("#0",), (), (0, 0, 0)), (("ann", "bob", "cy", "ann"), (), (0, 0, 0)),
            ((), [], (0, 0, 0)), ((), None, (0, 0, 0)), ((), (None,), (0, 0, 0)), ((), ("l",), (0, 0, 0)),
            ((), (["l", ()],), (0, 0, 0)), ((), (("l", []),), (0, 0, 0)), ((), (("l", (0,)),), (0, 0, 0)),
            ((), (("o", ()),), (0, 0, 0)), ((), (("l", (), ()),), (0, 0, 0)), ((), (("l",),), (0, 0, 0)),
            ((), (k("dot", 0),), (0, 0, 0)), ((), (k("ann", 4),), (0, 0, 0)), ((), (k("ann", -2),), (0, 0, 0)),
            ((), (k("ann", True),), (0, 0, 0)), ((), (k("ann", "0"),), (0, 0, 0)), ((), (k("#3", 0),), (0, 0, 0)),
            ((), (k("", 0),), (0, 0, 0)), ((), (k("#", 0),), (0, 0, 0)), ((), (k(0, 0),), (0, 0, 0)),
            ((), (k(None, 0),), (0, 0, 0)), ((), (("k", ("ann",)),), (0, 0, 0)), ((), (("k", ["ann", 0]),), (0, 0, 0)),
            ((), (("k", ("ann", 0, 0)),), (0, 0, 0)), ((), (m("ann", 3, "ann"),), (0, 0, 0)),
            ((), ((["k"], ()),), (0, 0, 0)),
            ((), (L, k("ann", 0)), (0, 0, 0)), ((), (k("ann", 1), k("ann", 0)), (0, 0, 0)), ((), L, (0, 0, 0)),
            ((), (k("ann", 0), k("-", 0)), (0, 0, 0)), ((), (("did", "x", 0),), (0, 0, 0)), ((), (NIGHT,), (0, 0, 0)))
        for value in bad:
            self.refused(BadMemory, value, memory=value)

    def test_what_is_no_move(self):
        bad = [value for value in VALUES if value != NIGHT] + [
            do("x", "bob"), do("x", "ann", 3), do("x", "ann", -1), do("x", "ann", True), do("x", "ann", None),
            do("y", "ann", 1), do("w", "ann"), do("x", None), do(None, "ann"), do(["x"], "ann"), do("x", ["ann"]),
            ["do", "x", "ann", 0], ["night"], "night", ("do", "x", "ann"), ("did", "x", "ann", 0),
            (True, "x", "ann", 0),
            ("do", "x", "ann", 0, 0), do("x", "ann", (0,))]
        for value in bad:
            self.refused(BadMove, value, move=value)

    def test_tests_do_not_count_for_a_move(self):
        self.same(gives(self.RULES, "r", FIRST, do("y", "bob"), ()), ((), FIRST))

    def test_what_are_no_rows(self):
        bad = [value for value in VALUES if value != ()] + [
            [L], L, (L, L, L), (["l", ()],), (("l", []),), (("l", (0,)),), (("o", ()),), (k("dot", 0),), (k("ann", 4),),
            (k("ann", -1),), (k("-", 0),), (k("#0", 0),), (k("ann", True),), (k("ann", False),), (k("ann", "0"),),
            (k(None, 0),), (k(["ann"], 0),), (("k", ("ann",)),), (("k", ("ann", 0, 0)),), (L, None), (None, L),
            (("k", ["ann", 0]),), (m("ann", 3, "ann"),), (m("ann", 0, 0),), ((["k"], ()),), (("l", (), ()),), (("l",),),
            {"l": ()}, (k("who", 0),), (k("it", 0),)]
        for value in bad:
            self.refused(BadRows, value, rows=value)

    def test_a_night_writes_no_rows(self):
        for value in ((L,), (L, L), (k("ann", 0),), None, [], {}, 0, "", (None,), False):
            self.refused(BadRows, value, move=NIGHT, rows=value)
        self.same(gives(self.RULES, "r", FIRST, NIGHT, ()), ((), FIRST))

    def test_the_first_of_several_errors(self):
        reader, memory, move, rows = ["r"], [FIRST], ["night"], [L]
        self.refused(BadReader, reader, reader, memory, move, rows)
        self.refused(BadReader, reader, reader, FIRST, NIGHT, rows)
        self.refused(BadReader, reader, reader, memory)
        self.refused(BadMemory, memory, "r", memory, move, rows)
        self.refused(BadMemory, memory, "r", memory, NIGHT, rows)
        self.refused(BadMemory, memory, "r", memory, move)
        self.refused(BadMove, move, "r", FIRST, move, rows)

    def test_values_of_every_kind_at_any_depth(self):
        for value in VALUES:
            if value not in ("", "a", "x", "night", "do", "text of words"):
                memory = ((value,), (), (0, 0, 0))
                self.refused(BadMemory, memory, memory=memory)
            memory = ((), (k(value, 0),), (0, 0, 0))
            self.refused(BadMemory, memory, memory=memory)
            memory, move, rows = ((), (value,), (0, 0, 0)), do("x", value), (L, value)
            self.refused(BadMemory, memory, memory=memory)
            self.refused(BadMove, move, move=move)
            self.refused(BadRows, rows, rows=rows)
            rows = (("l", value),)
            if value != ():
                self.refused(BadRows, rows, rows=rows)


class ViewTest(Case):

    RULES = Rules(HOUSE, "reader a\n  is ann\n  kind l\nreader b\n  kind k\n    number w\n    coarse v 2\n"
                         "reader c\n  nights\n  kind k\n    blank w\n    blank v\n    nightly\n  kind l\n    counted 1")
    RUN = (do("x", "ann", 1), do("y", "bob"), NIGHT, do("x", "cy", 2), NIGHT, NIGHT, do("z", "bob"), do("y", "ann"))

    def test_the_runs_rows(self):
        run = self.RUN[:-1]
        self.refuses(BadRun, 8, view, self.RULES, ("a",), self.RUN)
        self.same(led(HOUSE, run)[1], (
            (k("ann", 1), m("bob", 2, "ann")), (L,), (), (k("cy", 2), m("bob", 2, "cy")), (), (),
            (k("ann", 0), k("bob", 3))))

    def test_what_each_move_shows(self):
        run = self.RUN[:-1]
        self.same(shown_along(self.RULES, ("a",), run),
                  [((("did", "x", 1),),), ((L,),), ((),), ((),), ((),), ((),), ((),)])
        for pool in (("a",), ("a", "b"), ("b", "c")):
            seen = [shown for shown in shown_along(self.RULES, pool, run) if not is_unseen(shown)]
            self.same(view_of(self.RULES, pool, run), tuple(seen))
            self.same(view(self.RULES, pool, run), tuple(seen))

    def test_pools_of_one(self):
        run = self.RUN[:-1]
        self.same(view(self.RULES, ("a",), run), (((("did", "x", 1),),), ((L,),)))
        self.same(view(self.RULES, ("b",), run), (((k("#0", 0),),), ((k("#1", 1),),), ((k("#0", 0), k("#2", 1)),)))
        self.same(view(self.RULES, ("c",), run), (
            ((k("-", -1), ("count", "l", 1), NIGHT),), ((k("-", -1), ("count", "l", 0), NIGHT),),
            ((("count", "l", 0), NIGHT),)))

    def test_pools_of_several(self):
        run = self.RUN[:-1]
        night = (("count", "l", 0), NIGHT)
        self.same(view(self.RULES, ("a", "b"), run), (
            ((("did", "x", 1),), (k("#0", 0),)), ((L,), ()), ((), (k("#1", 1),)), ((), (k("#0", 0), k("#2", 1)))))
        self.same(view(self.RULES, ("a", "c"), run), (
            ((("did", "x", 1),), ()), ((L,), ()), ((), (k("-", -1), ("count", "l", 1), NIGHT)),
            ((), (k("-", -1),) + night),
            ((), night)))
        self.same(view(self.RULES, ("a", "b", "c"), run), (
            ((("did", "x", 1),), (k("#0", 0),), ()), ((L,), (), ()), ((), (), (k("-", -1), ("count", "l", 1), NIGHT)),
            ((), (k("#1", 1),), ()), ((), (), (k("-", -1),) + night), ((), (), night),
            ((), (k("#0", 0), k("#2", 1)), ())))

    def test_what_is_unseen_is_no_part(self):
        self.same(view(self.RULES, ("a",), ()), ())
        self.same(view(self.RULES, ("a", "b", "c"), ()), ())
        self.same(view(self.RULES, ("a", "b"), (NIGHT, NIGHT)), ())
        self.same(view(self.RULES, ("c",), (do("x", "ann"),)), ())
        self.same(view(rules_of(), ("r",), self.RUN[:-1]), ())

    def test_what_is_no_pool(self):
        for value in VALUES + (
                "a", ["a"], ("b", "a"), ("a", "a"), ("a", "d"), ("d",), ("a", "b", "c", "c"), ("a", None), (["a"],),
                ("a", "c", "b"),
                (("a",),), ("ann",), ("", "a"), ("a", True), {"a": 1}):
            if value != ("a",):
                with self.subTest(value=value):
                    self.refuses(BadPool, value, view, self.RULES, value, ())
                    self.refuses(BadPool, value, view, self.RULES, value, (None,))
                    self.refuses(BadPool, value, view, run=[], pool=value, rules=self.RULES)

    def test_every_pool(self):
        for pool in (("a",), ("b",), ("c",), ("a", "b"), ("a", "c"), ("b", "c"), ("a", "b", "c")):
            self.assertTrue(all([len(part) == len(pool) for part in view(self.RULES, pool, self.RUN[:-1])]))

    def test_what_is_no_run(self):
        for value in VALUES:
            if not isinstance(value, tuple):
                self.refuses(BadRun, 0, view, self.RULES, ("a",), value)
            if value != NIGHT:
                self.refuses(BadRun, 2, view, self.RULES, ("a",), (NIGHT, value))
        self.refuses(BadRun, 4, view, self.RULES, ("a",), (X, X, X, X, NIGHT))
        self.refuses(BadRun, 2, view, run=(do("z", "ann"), do("y", "ann")), pool=("a",), rules=self.RULES)
        self.refuses(BadRun, 1, view, self.RULES, ("a",), (do("x", "ann", True),))


class FullTest(Case):

    def test_a_view_of_the_full_house(self):
        rules = Rules(House(FULL), "reader a\n  kind k\n    only u = 1\n    number w\n  kind l\n    nightly")
        run = (do("x", "cy", 2), do("y", "ann"), do("z", "bob"), NIGHT)
        # x sets c to 2 and d to 1 and adds e, which is 1, to c; its row tells what was picked, then d.
        self.same(view(rules, ("a",), run), (
            ((("k", ("#0", 2, 1)),),), ((("k", ("#1", 3, 1)),),), ((L,),)))
