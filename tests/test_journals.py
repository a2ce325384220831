from givenout.errors import BadGuards, BadText, NoMove, Telling, TooMany
from givenout.houses import House
from givenout.journals import read_journal
from givenout.offices import Office
from givenout.rules import Rules
from givenout.stands import moves
from tests.helpers import BIG, SMALL, VALUES, Case
from tests.made import some

HOUSE = House(SMALL)
NUMBER = Rules(HOUSE, "reader r\n  kind k\n    number w")
THREE = Rules(HOUSE, "reader q\n  kind k\nreader r\n  kind k\n    number w\nreader s\n  nights")
BY_A = ("done", "x", "a", None)
XA, XB, NIGHT = ("do", "x", "a", 0), ("do", "x", "b", 0), ("night",)

HEAD = ["house"] + ["  " + line for line in SMALL.split("\n")]
PLAIN = HEAD + ["rules", "  reader r", "    kind k", "      number w"]
GUARDED = HEAD + [
    "rules", "  reader q", "    kind k", "  reader r", "    kind k", "      number w", "  reader s", "    nights",
    "guard q r", "  secret yes done x a -", "  secret yes and last x b now c 0", "  way", "    blank q k w",
    "    blank r k w", "  way", "  way", "    hide q k", "guard s", "  secret no done x b 0", "run", "  do x a 0",
    "  night", "  rules", "    reader r", "      kind k", "        blank w", "    reader t", "  do x b 0", "  night"]


def text_of(lines):
    """The text of the lines."""
    return "\n".join(lines)


class ReadJournalTest(Case):

    def bad(self, lines, number):
        text = text_of(lines)
        self.refuses(BadText, number, read_journal, text)

    def test_lines_by_hand(self):
        office = read_journal(text_of(GUARDED))
        self.same(office.journal, text_of(GUARDED))
        self.same((office.run, office.rules.text), ((XA, NIGHT, XB, NIGHT),
                                                    "reader r\n  kind k\n    blank w\nreader t"))
        guards = ((("q", "r"), ((BY_A, "yes"), (("and", ("last", "x", "b"), ("now", "c", 0)), "yes")),
                   ((("blank", "q", "k", "w"), ("blank", "r", "k", "w")), (), (("hide", "q", "k"),))),
                  (("s",), ((("done", "x", "b", 0), "no"),), ()))
        other = Office(THREE, guards=guards)
        self.same(other.journal, text_of(GUARDED[:GUARDED.index("run") + 1]))
        for move in (XA, NIGHT):
            other.do(move)
        other.change(Rules(HOUSE, "reader r\n  kind k\n    blank w\nreader t"))
        for move in (XB, NIGHT):
            other.do(move)
        self.same((other.journal, other.out, other.guards), (office.journal, office.out, office.guards))
        self.assertEqual(office, other)

    def test_without_guards_and_moves(self):
        self.same(Office(NUMBER).journal, text_of(PLAIN + ["run"]))
        self.assertEqual(read_journal(text_of(PLAIN + ["run"])), Office(NUMBER))

    def test_they_are_read_back(self):
        seen = {}
        for made in some(150):
            guards = made.guards() if made.is_so(80) else ()
            try:
                office = Office(made.rules, guards=guards)
            except Telling:
                continue
            for _ in range(made.one(0, 4, 12)):
                try:
                    if made.is_so(20):
                        office.change(made.other_rules())
                    else:
                        office.do(made.one(*moves(made.house, office.stand)))
                    if made.is_so(20):
                        office.undo()
                except Telling:
                    pass
            other = read_journal(office.journal)
            self.assertEqual(other, office)
            for name in ("journal", "guards", "run", "stand", "memories", "threads", "ways", "out"):
                self.same(getattr(other, name), getattr(office, name))
            self.assertEqual((other.rules, type(other)), (office.rules, Office))
            # Nothing was taken back, and all can be.
            self.assertRaises(ValueError, other.redo)
            for _ in other.out:
                other.undo()
            self.assertEqual(other, Office(made.rules, guards=guards))
            seen[(len(guards), "\n  rules" in office.journal)] = True
        self.same(len(seen), 6)

    def test_what_is_no_string(self):
        for value in VALUES:
            self.refuses(BadText, 1 if isinstance(value, str) else 0, read_journal, value)

    def test_cut_off_at_each_place(self):
        start = GUARDED.index("run")
        for many in range(len(GUARDED)):
            cut = GUARDED[:many]
            # Rules for no reader cannot stand; all else can end anywhere behind the line run.
            if many <= start or cut[-1] == "  rules":
                self.bad(cut, many + 1 if many > 0 else 1)
            else:
                self.same(read_journal(text_of(cut)).journal, text_of(cut))

    def test_one_line_otherwise_at_each_place(self):
        for at, line in enumerate(GUARDED):
            for bad in ("", " ", line + " ", " " + line, line + " ?", line.upper() + "!", "  " + line.strip() + "  x",
                        "      " + line, line + "\t", line.strip(" ") + "  ", "?"):
                if bad != line:
                    self.bad(GUARDED[:at] + [bad] + GUARDED[at + 1:], at + 1)

    def test_one_line_twice_or_left_out(self):
        for at, line in enumerate(GUARDED):
            for lines in (GUARDED[:at + 1] + [line] + GUARDED[at + 1:], GUARDED[:at] + GUARDED[at + 1:]):
                text = text_of(lines)
                try:
                    self.same(read_journal(text).journal, text)
                except BadText as error:
                    # The line that comes next, or the one that belongs to another one then.
                    self.assertGreaterEqual(error.number, at + 1)
                except (BadGuards, NoMove, Telling):
                    pass

    def test_lines_in_another_sequence(self):
        for lines, number in (
                (["rules", "  reader r"] + HEAD + ["run"], 1), (HEAD + ["run"], len(HEAD) + 1),
                (PLAIN + ["run"] + PLAIN[len(HEAD):], len(PLAIN) + 2),
                (PLAIN + ["guard r", "  way", "  secret yes now c 1"], len(PLAIN) + 3),
                (PLAIN + ["  way", "run"], len(PLAIN) + 1),
                (PLAIN + ["guard r", "  secret yes now c 1", "    daily r", "run"], len(PLAIN) + 3),
                (PLAIN + ["run", "guard r"], len(PLAIN) + 2), (PLAIN + ["run", "do x a 0"], len(PLAIN) + 2),
                (PLAIN + ["run", "    night"], len(PLAIN) + 2), (PLAIN + ["run", "  night", "run"], len(PLAIN) + 3),
                (PLAIN + ["run", "  run"], len(PLAIN) + 2), (["house"] + PLAIN + ["run"], 2),
                (PLAIN + PLAIN, len(PLAIN) + 1), (PLAIN + ["run", ""], len(PLAIN) + 2), ([""] + PLAIN + ["run"], 1)):
            self.bad(lines, number)

    def test_lines_of_house_and_rules(self):
        # The number is that of the journal.
        for at, bad, number in ((1, "  people a a", 2), (2, "  cell c 5 0", 3), (6, "    row k c", 7),
                                (7, "  day 4", 8), (4, "    worth w 9", 5), (1, "people a b", 2)):
            self.bad(PLAIN[:at] + [bad] + PLAIN[at + 1:] + ["run"], number)
        # What is missing in a block is the line that stands there.
        self.bad(HEAD[:-1] + PLAIN[len(HEAD):] + ["run"], len(HEAD))
        self.bad(["house"] + PLAIN[len(HEAD):] + ["run"], 2)
        self.bad(HEAD + ["rules", "run"], len(HEAD) + 2)
        self.bad(HEAD + ["rules"], len(HEAD) + 2)
        self.bad(HEAD + ["  day 1"] + PLAIN[len(HEAD):] + ["run"], len(HEAD) + 1)
        self.bad(PLAIN + ["run", "  rules", "  night"], len(PLAIN) + 3)
        self.bad(PLAIN + ["run", "  rules", "    reader r", "      kind l", "  night"], len(PLAIN) + 4)
        self.bad(PLAIN + ["run", "  rules", "    reader r", "    reader q"], len(PLAIN) + 4)

    def test_guards_by_their_form(self):
        here = len(PLAIN)
        for lines, number in (
                (["guard"], 1), (["guard "], 1), (["guard R"], 1), (["guard r 1"], 1), (["guard  r"], 1),
                (["guard abcdefghi"], 1), (["guard r", "  secret yes"], 2), (["guard r", "  secret"], 2),
                (["guard r", "  secret never now c 1"], 2), (["guard r", "  secret yes now c 2"], 2),
                (["guard r", "  secret now c 1"], 2), (["guard r", "  secret yes now c 1 yes"], 2),
                (["guard r", "  secret Yes now c 1"], 2), (["guard r", "  secret yes  now c 1"], 2),
                (["guard r", "  secret yes not not not not now c 1"], 2), (["guard r", "  way x"], 2),
                (["guard r", "  way", "    hide r"], 3), (["guard r", "  way", "    hide r k w"], 3),
                (["guard r", "  way", "    coarse r k v 4"], 3), (["guard r", "  way", "    show r k"], 3),
                (["guard r", "  way", "  daily r"], 3), (["guard r", "  ways"], 2), (["guards r"], 1)):
            self.bad(PLAIN + lines + ["run"], here + number)
            if number == len(lines):
                self.bad(PLAIN + lines, here + number)
        # Behind the text: none or more secrets and ways, readers and changes by their names alone.
        for lines, guards in (
                (["guard r"], ((("r",), (), ()),)), (["guard t", "  secret yes now c 1"],
                                                     ((("t",), ((("now", "c", 1), "yes"),), ()),)),
                (["guard r q", "  secret yes now c 1"], ((("r", "q"), ((("now", "c", 1), "yes"),), ()),)),
                (["guard a b c d", "  way"], ((("a", "b", "c", "d"), (), ((),)),)),
                (["guard r", "  secret yes worth c"], ((("r",), ((("worth", "c"), "yes"),), ()),)),
                (["guard r"] + ["  secret no now c 1"] * 4, ((("r",), ((("now", "c", 1), "no"),) * 4, ()),)),
                (["guard r", "  secret no now c 1"] + ["  way"] * 2, ((("r",), ((("now", "c", 1), "no"),), ((), ())),)),
                (["guard r", "  secret no now c 1", "  way", "    hide q l", "    daily r"],
                 ((("r",), ((("now", "c", 1), "no"),), ((("hide", "q", "l"), ("daily", "r")),)),)),
                (["guard r", "  secret no now c 1"] * 3, ((("r",), ((("now", "c", 1), "no"),), ()),) * 3)):
            with self.assertRaises(BadGuards) as caught:
                read_journal(text_of(PLAIN + lines + ["run", "  do z a 9"]))
            self.same(caught.exception.value, guards)
            # A line further on that has no form is ahead of it.
            self.bad(PLAIN + lines + ["run", "  do z a 9", "  no"], here + len(lines) + 3)

    def test_moves_by_their_form(self):
        for line in ("xxnight", "--do x a 0", "  do x a", "  do x a 00", "  do x a -", "  do x A 0", "  nights",
                     "  night 0", "  undo", "  do x a 0 ", "  do x a 1234567890", " night", "  Night", "  may night",
                     "  do  x a 0"):
            self.bad(PLAIN + ["run", line], len(PLAIN) + 2)
            self.bad(PLAIN + ["run", "  do z a 0", line, "  night"], len(PLAIN) + 3)

    def test_errors_in_sequence_behind_the_text(self):
        def journal(rules, guard, *steps):
            lines = []
            for step in steps:
                rows = step.split("\n")
                lines += ["  " + step] if len(rows) == 1 else ["  rules"] + ["    " + row for row in rows[1:]]
            return text_of(HEAD + ["rules"] + ["  " + line for line in rules.split("\n")] + guard + ["run"] + lines)

        guard = ["guard r", "  secret yes done x a -", "  way"]
        telling = "\nreader r\n  is a"
        for text, error, told in (
                (journal(NUMBER.text, [], "do x a 0", "do x b 0"), NoMove, XB),
                (journal(NUMBER.text, [], "do z a 0", "do x b 0"), NoMove, ("do", "z", "a", 0)),
                (journal(NUMBER.text, guard, "do x a 0", telling, "do x z 0"), Telling, 0),
                (journal(NUMBER.text, guard, "do x z 999999999", telling), NoMove, ("do", "x", "z", 999999999)),
                (journal(telling[1:], guard, "do x z 0"), Telling, 0),
                (journal(telling[1:] + "\nreader s", ["guard s", "  secret yes done x a -"] + guard, "no"), BadText,
                 19),
                (journal(telling[1:] + "\nreader s", ["guard s", "  secret yes done x a -"] + guard, "night"), Telling,
                 1)):
            with self.assertRaises(error) as caught:
                read_journal(text)
            self.same(list(vars(caught.exception).values()), [told])
        lines = ["house"] + ["  " + line for line in BIG.split("\n")] + ["rules", "  reader r"]
        many = ["guard r", "  secret yes or or done x - 0 done x - 1 or done x - 2 done x - 3"]
        self.refuses(TooMany, 2000, read_journal, text_of(lines + many + ["run", "  do x b 0"]))
        self.bad(lines + many + ["run", "  do x b"], len(lines) + 4)

    def test_names_that_are_words(self):
        house = ["house", "  people run guard", "  cell house 2 0", "  kind way", "    who secret", "  deed rules",
                 "    row way who", "  day 1"]
        lines = house + ["rules", "  reader guard", "    is run", "    kind way", "  reader run", "guard guard run",
                         "  secret no often rules 2", "  way", "    hide guard way", "run", "  do rules guard 0",
                         "  rules", "    reader rules", "  night"]
        self.same(read_journal(text_of(lines)).journal, text_of(lines))

    def test_by_the_names_of_the_document(self):
        text = text_of(GUARDED)
        self.assertEqual(read_journal(text=text), read_journal(text))
        self.assertEqual(read_journal(text), read_journal(text))
