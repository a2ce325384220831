from givenout.errors import BadText
from givenout.houses import House
from givenout.rules import Rules
from tests.helpers import FULL, SMALL, VALUES, Case, first_wrong, replaced

HOUSE = House(FULL)

TEXT = """reader ann
  is bob
  daily
  nights
  kind k
    only w = ann
    only v != 3
    number w
    coarse v 2
    blank u
    nightly
  kind l
    nightly
  kind m
    only v != 2
    only v != 1
    counted 3
reader bob
  nights
  kind k
    blank w
    coarse u 3
  kind m
    counted 1
reader c"""

BROKEN = (
    (1, "reader"), (1, "reader ann bob"), (1, "reader "), (1, "reader  ann"), (1, "reader Ann"), (1, " reader ann"),
    (1, "  reader ann"), (1, "reader abcdefghi"), (1, "reader ann "), (1, "readers ann"), (1, "kind k"),
    (1, "  kind k"), (1, ""), (1, "house"), (1, "reader a1"),
    (2, "  is"), (2, "  is dot"), (2, "  is ann bob"), (2, "  is  bob"), (2, "  is bob "), (2, "is bob"),
    (2, "    is bob"), (2, "  is bob\n  is bob"), (2, "  is who"), (2, "  was bob"), (2, "  daily\n  is bob"),
    (2, "  is bob\nreader ann"),
    (3, "  daily 1"), (3, "  daily "), (3, "daily"), (3, "   daily"), (3, "    daily"), (3, "  daily\n  daily"),
    (3, "  Daily"), (3, "  daily\n  is bob"), (3, "  nights\n  daily"), (3, "\tdaily"),
    (4, "  nights 1"), (4, "  nights "), (4, "nights"), (4, "    nights"), (4, "  nights\n  nights"),
    (4, "  night"), (4, "  nights\n  daily"), (4, "  nights\n  is ann"), (4, "  kind k\n  nights"), (4, ""),
    (4, "  "),
    (5, "  kind"), (5, "  kind k k"), (5, "  kind o"), (5, "  kind "), (5, "  kind  k"), (5, "  kind k "),
    (5, "kind k"), (5, "    kind k"), (5, "  kind K"), (5, "  kind k\n  nights"), (5, "  kind k\n  is bob"),
    (5, "  row k"),
    (6, "    only"), (6, "    only w"), (6, "    only w ="), (6, "    only w = dot"), (6, "    only w = who"),
    (6, "    only w = 0"), (6, "    only w == ann"), (6, "    only w = ann "), (6, "    only  w = ann"),
    (6, "  only w = ann"), (6, "only w = ann"), (6, "      only w = ann"), (6, "    only x = ann"),
    (6, "    only w = ann bob"), (6, "     only w = ann"), (6, "    only w < ann"), (6, "    only w = -"),
    (6, "    only w = #0"), (6, "    not w = ann"),
    (7, "    only v != 4"), (7, "    only v != -1"), (7, "    only v != 03"), (7, "    only v != ann"),
    (7, "    only v != "), (7, "    only u = 2"), (7, "    only v != 3\n    only v != 3"),
    (7, "    only v != 3\n    only w = ann"),
    (8, "    number"), (8, "    number v"), (8, "    number x"), (8, "    number w w"), (8, "    number w "),
    (8, "    number w\n    number w"), (8, "    number w\n    blank w"), (8, "    coarse w 2"), (8, "  number w"),
    (8, "    number  w"), (8, "number w"), (8, "      number w"), (8, "    number w\n    only v = 1"),
    (8, "    number u"), (8, "    numbers w"), (8, "    number k"),
    (9, "    coarse v"), (9, "    coarse v 1"), (9, "    coarse v 4"), (9, "    coarse v 02"),
    (9, "    coarse v 2 2"), (9, "    coarse v x"), (9, "    coarse x 2"), (9, "    coarse v 2\n    coarse v 2"),
    (9, "    coarse v 2\n    number w"), (9, "    coarse v 2\n    blank w"), (9, "    coarse v 2\n    blank v"),
    (9, "    coarse v  2"), (9, "    coarse v 2 "), (9, "    coarse"), (9, "  coarse v 2"), (9, "    number v"),
    (9, "    coarse v 0"),
    (10, "    blank"), (10, "    blank x"), (10, "    blank u 2"), (10, "    blank u "), (10, "    blank  u"),
    (10, "    blank u\n    blank u"), (10, "    blank u\n    coarse v 2"), (10, "    blank w"), (10, "    blank v"),
    (10, "  blank u"), (10, "    empty u"), (10, "    blank u\n    only v = 1"), (10, "    blank k"),
    (11, "    nightly 1"), (11, "    nightly "), (11, "  nightly"), (11, "      nightly"), (11, "nightly"),
    (11, "    nightly\n    nightly"), (11, "    nightly\n    counted 1"), (11, "    counted 1"),
    (11, "    counted 3"), (11, "    nightly\n    blank u"), (11, "    nightly\n    only w = ann"),
    (11, "    daily"), (11, "    Nightly"),
    (12, "  kind k"), (12, "  kind m\n  kind l"), (12, "  kind l\n  kind l"), (12, "  kind l\n  kind k"),
    (13, "    blank w"), (13, "    nightly\n    only v = 1"), (13, "    only v = 1"),
    (13, "    nightly\n    counted 2"),
    (14, "  kind l"), (14, "  kind k"),
    (17, "    counted"), (17, "    counted 0"), (17, "    counted 4"), (17, "    counted 03"),
    (17, "    counted 3 3"), (17, "    counted x"), (17, "    counted 3 "), (17, "    counted  3"),
    (17, "  counted 3"), (17, "counted 3"), (17, "    counted 3\n    counted 3"),
    (17, "    counted 3\n    nightly"), (17, "    counted 3\n    blank v"), (17, "    counted 3\n    coarse v 2"),
    (17, "    counted 3\n    only v = 1"), (17, "    blank v\n    counted 3"),
    (17, "    coarse v 2\n    counted 3"), (17, "    nightly\n    counted 3"), (17, "    nightly\n    blank v"),
    (17, "    count 3"), (17, "    counted 3\n  kind l"),
    (18, "reader ann"), (18, "reader an"), (18, "reader"), (18, "  reader bob"), (18, "reader a"),
    (22, "    coarse u 4"), (22, "    number w"), (22, "    coarse v"),
    (25, "reader bob"), (25, "reader b"), (25, "reader c\nreader d"), (25, "reader c\n"), (25, "reader c\n\n"),
    (25, "reader c\n  daily\n  is bob"), (25, "reader c\n    nightly"), (25, "reader c "), (25, ""), (25, "\n"),
    (25, "reader c\n "), (25, "reader c\n  kind k\n    kind l"), (25, "reader c\nkind k"), (25, "reader c\nday 1"))


class RulesTest(Case):

    def test_the_example(self):
        house, text = House(SMALL), "reader r\n  kind k\n    number w"
        rules = Rules(house, text)
        self.assertIs(rules.house, house)
        self.same(rules.text, text)
        self.same(rules.readers, ("r",))

    def test_full_rules(self):
        rules = Rules(HOUSE, TEXT)
        self.assertIs(rules.house, HOUSE)
        self.same((rules.text, rules.readers), (TEXT, ("ann", "bob", "c")))

    def test_by_the_names_of_the_document(self):
        self.assertEqual(Rules(text=TEXT, house=HOUSE), Rules(HOUSE, TEXT))

    def test_one_to_three_readers_with_or_without_lines(self):
        for names in ("a", "abcdefgh", "a b", "a aa", "b c", "a b c", "a aa b", "x y z"):
            for below in ("", "\n  kind k", "\n  daily", "\n  is cy\n  kind l\n  kind m\n    nightly"):
                text = "\n".join([f"reader {name}{below}" for name in names.split()])
                self.same(Rules(HOUSE, text).readers, tuple(names.split()))

    def test_two_readers_may_be_the_same_person(self):
        self.same(Rules(HOUSE, "reader a\n  is cy\nreader b\n  is cy").readers, ("a", "b"))

    def test_lines_may_be_left_out(self):
        for number in (2, 3, 4, 6, 7, 8, 9, 10, 11, 13, 15, 16, 17, 19, 21, 22, 24, 25):
            text = replaced(TEXT, number)
            self.same(Rules(HOUSE, text).text, text)

    def test_only_lines_may_be_of_one_field_and_alike(self):
        for lines in (("v = 1", "v = 1"), ("v = 1", "v != 1"), ("u = 0", "w = cy"), ("v = 0", "w != bob")):
            text = "reader r\n  kind k\n" + "\n".join([f"    only {line}" for line in lines])
            self.same(Rules(HOUSE, text).text, text)

    def test_names_that_are_words_of_rules(self):
        house = House("people is kind\ncell c 2 0\nkind kind\n  who only\n  worth blank 2\nkind reader\n  who number\n"
                      "kind nightly\ndeed x\nday 1")
        text = ("reader daily\n  is kind\n  kind kind\n    only only = is\n    number only\n    coarse blank 2\n"
                "  kind reader\n    blank number\n    nightly\n  kind nightly\n    counted 2\n"
                "reader kind\n  kind reader\n    only number != kind\nreader reader")
        self.same(Rules(house, text).readers, ("daily", "kind", "reader"))

    def test_equality(self):
        rules = Rules(HOUSE, TEXT)
        self.assertTrue(rules == Rules(HOUSE, TEXT))
        self.assertTrue(rules == Rules(House(FULL), TEXT))
        self.assertFalse(rules != Rules(House(FULL), TEXT))
        self.assertFalse(rules == Rules(House(FULL.replace("day 3", "day 2")), TEXT))
        self.assertTrue(rules != Rules(House(FULL.replace("day 3", "day 2")), TEXT))
        self.assertFalse(rules == Rules(HOUSE, replaced(TEXT, 25)))
        self.assertTrue(rules != Rules(HOUSE, replaced(TEXT, 25)))
        for value in VALUES + (HOUSE, TEXT):
            self.assertFalse(rules == value)
            self.assertFalse(value == rules)
            self.assertTrue(rules != value)


class BadRulesTest(Case):

    def bad(self, text, number):
        with self.subTest(text=text):
            self.refuses(BadText, number, Rules, HOUSE, text)
            self.refuses(BadText, number, Rules, text=text, house=HOUSE)

    def test_what_is_no_string(self):
        for value in VALUES + (HOUSE, Rules(HOUSE, TEXT)):
            if not isinstance(value, str):
                self.bad(value, 0)

    def test_strings_that_are_no_rules(self):
        for value in VALUES + (FULL, "\n", "\n\n", "\n" + TEXT, " " + TEXT, "  ", "\t"):
            if isinstance(value, str):
                self.bad(value, 1)

    def test_a_broken_line_is_told_by_its_number(self):
        for number, rows in BROKEN:
            self.bad(replaced(TEXT, number, rows), number + first_wrong(rows))

    def test_a_line_feed_at_the_end(self):
        lines = TEXT.split("\n")
        for many in range(1, len(lines) + 1):
            self.same(Rules(HOUSE, "\n".join(lines[:many])).text, "\n".join(lines[:many]))
            self.bad("\n".join(lines[:many]) + "\n", many + 1)

    def test_a_line_left_out(self):
        for number, wrong in ((1, 1), (5, 5), (12, 12), (14, 14), (18, 18), (20, 20), (23, 23)):
            self.bad(replaced(TEXT, number), wrong)

    def test_a_line_twice(self):
        lines = TEXT.split("\n")
        # Of the only lines it is the third that cannot stand there; a reader or kind stands there without its lines.
        wrong = {6: 8, 7: 8, 15: 17, 16: 17}
        for number in range(1, len(lines) + 1):
            self.bad("\n".join(lines[:number] + lines[number - 1:]), wrong.get(number, number + 1))

    def test_a_line_exchanged_with_the_next_one(self):
        lines = TEXT.split("\n")
        wrong = {1: 1, 2: 3, 3: 4, 4: 5, 5: 5, 7: 8, 8: 9, 9: 10, 10: 11, 11: 13, 12: 12, 13: 15, 14: 14, 16: 17,
                 17: 18, 18: 18, 19: 20, 20: 20, 21: 22, 22: 23, 23: 23, 24: 25}
        for number in range(1, len(lines)):
            text = "\n".join(lines[:number - 1] + [lines[number], lines[number - 1]] + lines[number + 1:])
            if number in wrong:
                self.bad(text, wrong[number])
            else:
                self.same(Rules(HOUSE, text).text, text)

    def test_each_line_deeper_or_less_deep(self):
        for number, line in enumerate(TEXT.split("\n"), start=1):
            for row in (" " + line, "  " + line, "\t" + line):
                self.bad(replaced(TEXT, number, row), number)
            if line.startswith("  "):
                for row in (line[1:], line[2:]):
                    self.bad(replaced(TEXT, number, row), number)

    def test_each_line_with_more_blanks_or_words(self):
        for number, line in enumerate(TEXT.split("\n"), start=1):
            for row in (line + " ", line + " w", line + "  ", line + "\t", line.replace("k", "k ", 1) + " "):
                self.bad(replaced(TEXT, number, row), number)

    def test_what_is_not_of_this_house(self):
        other = House(SMALL)
        for text, number in (
                ("reader r\n  is cy", 2), ("reader r\n  kind l", 2), ("reader r\n  kind k\n    blank v", 3),
                ("reader r\n  kind k\n    only w = cy", 3), ("reader r\n  kind k\n    only v = 1", 3)):
            self.refuses(BadText, number, Rules, other, text)

    def test_worths_and_people_of_only_lines_fit(self):
        for field, fitting in (("w", ("ann", "bob", "cy")), ("v", "0123"), ("u", "01")):
            for value in ("ann", "bob", "cy", "dot", "who", "-", "0", "1", "2", "3", "4", "00", "-1", ""):
                for sign in ("=", "!="):
                    text = f"reader r\n  kind k\n    only {field} {sign} {value}"
                    if value in fitting and value != "":
                        self.same(Rules(HOUSE, text).text, text)
                    else:
                        self.bad(text, 3)

    def test_counted_kinds_have_no_lines_for_fields(self):
        for lines, number in (
                (("blank w", "counted 1"), 4), (("number w", "counted 2"), 4), (("coarse v 2", "counted 3"), 4),
                (("only v = 1", "blank u", "counted 1"), 5), (("counted 1", "blank w"), 4),
                (("counted 1", "number w"), 4), (("counted 1", "coarse v 2"), 4)):
            self.bad("reader r\n  kind k\n" + "\n".join([f"    {line}" for line in lines]), number)
