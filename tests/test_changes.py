from itertools import combinations

from givenout.changes import are_let, is_change, with_changes
from givenout.errors import BadChanges, TooMany
from givenout.houses import House
from givenout.keeping import kept
from givenout.rules import Rules
from tests.helpers import FULL, VALUES, Case
from tests.made import some

HOUSE = House(FULL)

TEXT = """reader a
  is ann
  nights
  kind k
    only u = 1
    only v != 2
    blank v
    nightly
  kind l
reader b
  daily
  kind k
    number w
    coarse v 2
    blank u
  kind m
    only v = 0
    counted 2
reader c"""

RULES = Rules(HOUSE, TEXT)

# Each change that these rules let, with the lines that come in the place of others.
LET = (
    (("hide", "a", "k"), "  kind k\n    only u = 1\n    only v != 2\n    blank v\n    nightly\n  kind l", "  kind l"),
    (("hide", "a", "l"), "    nightly\n  kind l\n", "    nightly\n"),
    (("hide", "b", "m"), "\n  kind m\n    only v = 0\n    counted 2", ""),
    (("blank", "a", "k", "w"), "    blank v", "    blank w\n    blank v"),
    (("blank", "a", "k", "u"), "    blank v", "    blank v\n    blank u"),
    (("blank", "b", "k", "w"), "    number w", "    blank w"),
    (("blank", "b", "k", "v"), "    coarse v 2", "    blank v"),
    (("number", "a", "k", "w"), "    blank v", "    number w\n    blank v"),
    (("coarse", "a", "k", "v", 2), "    blank v", "    coarse v 2"),
    (("coarse", "a", "k", "v", 3), "    blank v", "    coarse v 3"),
    (("coarse", "a", "k", "u", 3), "    blank v", "    blank v\n    coarse u 3"),
    (("coarse", "b", "k", "v", 3), "    coarse v 2", "    coarse v 3"),
    (("coarse", "b", "k", "u", 2), "    blank u", "    coarse u 2"),
    (("nightly", "a", "l"), "  kind l\n", "  kind l\n    nightly\n"),
    (("nightly", "b", "k"), "    blank u", "    blank u\n    nightly"),
    (("counted", "a", "k", 3), "    blank v\n    nightly", "    counted 3"),
    (("counted", "a", "l", 1), "  kind l\n", "  kind l\n    counted 1\n"),
    (("counted", "b", "k", 2), "    number w\n    coarse v 2\n    blank u", "    counted 2"),
    (("counted", "b", "m", 1), "    counted 2", "    counted 1"),
    (("counted", "b", "m", 3), "    counted 2", "    counted 3"),
    (("daily", "a"), "  is ann\n", "  is ann\n  daily\n"),
    (("daily", "c"), "reader c", "reader c\n  daily"),
    (("nights", "a"), "  nights\n", ""))

# Changes by their form that these rules do not let.
NOT_LET = (
    ("hide", "d", "k"), ("hide", "a", "m"), ("hide", "c", "k"), ("hide", "a", "x"), ("blank", "a", "k", "v"),
    ("blank", "a", "k", "x"), ("blank", "a", "l", "w"), ("blank", "c", "k", "w"), ("blank", "b", "m", "v"),
    ("blank", "b", "k", "u"), ("number", "b", "k", "w"), ("number", "a", "k", "v"), ("number", "a", "k", "u"),
    ("number", "b", "m", "v"), ("number", "a", "l", "w"), ("coarse", "a", "k", "w", 2), ("coarse", "b", "k", "v", 2),
    ("coarse", "b", "m", "v", 2), ("coarse", "a", "k", "x", 2), ("nightly", "a", "k"), ("nightly", "b", "m"),
    ("nightly", "c", "k"), ("nightly", "a", "m"), ("nightly", "d", "k"), ("counted", "b", "m", 2),
    ("counted", "c", "k", 2),
    ("counted", "a", "m", 2), ("daily", "b"), ("daily", "d"), ("nights", "b"), ("nights", "c"), ("nights", "d"),
    ("daily", "ann"), ("daily", "k"))

# What is no change by its form.
NO_FORM = (
    ("hide",), ("hide", "a"), ("hide", "a", "k", "v"), ("hide", "a", None), ("hide", ["a"], "k"), ["hide", "a", "k"],
    ("hide", "a", "K"), ("hide", "a", "kindofkin"), ("hide", "", "k"), ("blank", "a", "k"),
    ("blank", "a", "k", "w", "v"),
    ("blank", "a", "k", ["w"]), ("blank", "a", ("k", "w")), ("number", "a", "k"), ("number", "a", "k", 0),
    ("number", "a", "k", "w", 2), ("coarse", "a", "k", "v"), ("coarse", "a", "k", "v", 1), ("coarse", "a", "k", "v", 4),
    ("coarse", "a", "k", "v", True), ("coarse", "a", "k", "v", "2"), ("coarse", "a", "k", "v", None),
    ("coarse", "a", "k", "v", 2, 2), ("nightly", "a"), ("nightly", "a", "k", "w"), ("nightly", "a", 1),
    ("counted", "a", "k"),
    ("counted", "a", "k", 0), ("counted", "a", "k", 4), ("counted", "a", "k", True), ("counted", "a", "k", "1"),
    ("counted", "a", "k", "v", 1), ("daily",), ("daily", "a", "k"), ("daily", None), ("daily", "a "), ("nights",),
    ("nights", ["a"]), ("nights", "a", "a"), ("is", "a", "ann"), ("only", "a", "k"), ("reader", "a"), ("kind", "a"),
    ("", "a"),
    (None, "a", "k"), ("plain", "a", "k", "w"), "hide a k", (["hide"], "a", "k"), ("Hide", "a", "k"))


class WithChangesTest(Case):

    def text(self, text, *changes):
        """Just this text comes, and it is read as rules."""
        told = with_changes(RULES, tuple(changes))
        self.same(told.text, text)
        self.assertEqual(told, Rules(HOUSE, text))
        self.assertEqual(told.readers, Rules(HOUSE, text).readers)
        self.same(RULES.text, TEXT)
        return told

    def test_each_change(self):
        for change, lines, instead in LET:
            with self.subTest(change=change):
                self.assertIn(lines, TEXT)
                self.text(TEXT.replace(lines, instead, 1), change)

    def test_no_changes(self):
        told = self.text(TEXT)
        self.assertEqual(told, RULES)
        for made in some(60):
            self.same(with_changes(made.rules, ()).text, made.rules.text)

    def test_several_changes(self):
        self.text("reader a\n  is ann\n  daily\n  kind k\n    only u = 1\n    only v != 2\n    number w\n"
                  "    coarse v 3\n"
                  "    blank u\n    nightly\nreader b\n  daily\n  kind k\n    counted 1\n  kind m\n    only v = 0\n"
                  "    counted 3\nreader c\n  daily",
                  ("blank", "a", "k", "u"), ("coarse", "a", "k", "v", 3), ("counted", "b", "k", 1),
                  ("counted", "b", "m", 3),
                  ("daily", "a"), ("daily", "c"), ("hide", "a", "l"), ("nights", "a"), ("number", "a", "k", "w"))
        self.text("reader a\n  is ann\n  nights\nreader b\n  daily\nreader c", ("hide", "a", "k"), ("hide", "a", "l"),
                  ("hide", "b", "k"), ("hide", "b", "m"))
        self.text(TEXT.replace("    number w\n    coarse v 2\n    blank u",
                               "    blank w\n    blank v\n    coarse u 2\n    nightly"),
                  ("blank", "b", "k", "v"), ("blank", "b", "k", "w"), ("coarse", "b", "k", "u", 2),
                  ("nightly", "b", "k"))

    def test_two_changes_beside_each_other(self):
        changes = sorted([change for change, _, _ in LET])
        for one, other in combinations(changes, 2):
            same = len(one) > 2 and len(other) > 2 and one[1:3] == other[1:3]
            bad = same and (one[0] in ("hide", "counted") or other[0] in ("hide", "counted")
                            or (len(one) > 3 and len(other) > 3 and one[3] == other[3]))
            with self.subTest(one=one, other=other):
                self.same(are_let(RULES, (one, other)), not bad)
                value = (one, other)
                if bad:
                    self.refuses(BadChanges, value, with_changes, RULES, value)
                else:
                    told = with_changes(RULES, value)
                    self.assertEqual(told, Rules(HOUSE, told.text))
                    self.same(told.text, with_changes(with_changes(RULES, (one,)), (other,)).text)
                    self.same(told.text, with_changes(with_changes(RULES, (other,)), (one,)).text)
                    value = (other, one)
                    self.refuses(BadChanges, value, with_changes, RULES, value)

    def test_fields_beside_nightly_and_readers_beside_readers(self):
        rules = Rules(HOUSE, "reader r\n  nights\n  kind k\n  kind m\nreader s\n  nights\n  kind k")
        for changes, text in (
                ((("blank", "r", "k", "v"), ("nightly", "r", "k"), ("number", "r", "k", "w")),
                 "reader r\n  nights\n  kind k\n    number w\n    blank v\n    nightly\n  kind m\nreader s\n"
                 "  nights\n  kind k"),
                ((("daily", "r"), ("daily", "s"), ("nights", "r"), ("nights", "s")),
                 "reader r\n  daily\n  kind k\n  kind m\nreader s\n  daily\n  kind k"),
                ((("hide", "r", "k"), ("hide", "s", "k"), ("nightly", "r", "m")),
                 "reader r\n  nights\n  kind m\n    nightly\nreader s\n  nights")):
            self.same(with_changes(rules, changes).text, text)

    def test_what_is_no_ascending_tuple(self):
        good, other = ("daily", "a"), ("nights", "a")
        for value in [[good], [], good, (good, good), (other, good), (good, other, good), "daily", None, {good: 1},
                      (good, None), (good, other, other)]:
            self.refuses(BadChanges, value, with_changes, RULES, value)
        with_changes(RULES, (good, other))

    def test_what_is_not_let(self):
        for change in NOT_LET + NO_FORM + VALUES:
            with self.subTest(change=change):
                for value in ((change,), (("daily", "a"), change), (change, ("nights", "a"))):
                    self.refuses(BadChanges, value, with_changes, RULES, value)
                    self.same(are_let(RULES, value), False)
        for value in VALUES:
            if value != ():
                self.refuses(BadChanges, value, with_changes, RULES, value)

    def test_forms(self):
        for change in [change for change, _, _ in LET] + list(NOT_LET):
            self.same(is_change(change), True)
        for value in NO_FORM + VALUES:
            self.same(is_change(value), False)

    def test_names_like_words(self):
        house = House("people is daily\ncell kind 2 0\nkind nightly\n  who only\n  worth blank 2\nkind kind\n"
                      "  who number\n"
                      "deed x\n  row nightly who kind\nday 1")
        text = ("reader daily\n  is is\n  nights\n  kind nightly\n    only only = daily\n    number only\n  kind kind\n"
                "reader reader\n  kind kind\n    blank number")
        rules = Rules(house, text)
        for changes, lines, instead in (
                ((), "", ""), ((("hide", "daily", "nightly"),),
                               "  kind nightly\n    only only = daily\n    number only\n", ""),
                ((("blank", "daily", "nightly", "only"),), "number only", "blank only"),
                ((("coarse", "daily", "nightly", "blank", 2),), "number only", "number only\n    coarse blank 2"),
                ((("daily", "daily"), ("nights", "daily")), "  nights", "  daily"),
                ((("daily", "reader"),), "reader reader", "reader reader\n  daily"),
                ((("counted", "reader", "kind", 2),), "    blank number", "    counted 2"),
                ((("nightly", "daily", "kind"),), "  kind kind\nreader", "  kind kind\n    nightly\nreader")):
            self.same(with_changes(rules, changes).text, text.replace(lines, instead, 1) if lines else text)

    def test_by_the_names_of_the_document(self):
        self.same(with_changes(changes=(("daily", "a"),), rules=RULES).text,
                  with_changes(RULES, (("daily", "a"),)).text)
        changes = (("daily", "a"), ("nights", "a"))
        self.assertEqual(with_changes(RULES, changes), with_changes(RULES, changes))


class LessTest(Case):

    def test_less_that_is_given_tells_no_more(self):
        # For readers without numbers: hide, blank, nights, and coarse of a field that has no line.
        seen = {("kept", "kept"): 0, ("out", "kept"): 0, ("out", "out"): 0}
        for made in some(280, numbers=False):
            secrets, pool = made.secrets(), made.pool()
            try:
                before = kept(made.rules, pool, secrets)
                for change in self.less(made.rules):
                    behind = kept(with_changes(made.rules, (change,)), pool, secrets)
                    seen[(before[0], behind[0])] += 1
                    if behind[0] == "out":
                        self.assertGreaterEqual(len(behind[1]), len(before[1]))
            except TooMany:
                pass
        self.assertGreater(min(seen.values()), 20)

    def less(self, rules):
        """The changes by which less is given."""
        found = []
        for reader in rules.readers:
            found.append(("nights", reader))
            for kind, fields in rules.house.kinds:
                found.append(("hide", reader, kind))
                for field, size in fields:
                    found.append(("blank", reader, kind, field))
                    told = rules.by_reader[reader].kinds.get(kind)
                    if size is not None and told is not None:
                        if told.puts[[name for name, _ in fields].index(field)][0] == "plain":
                            found.extend([("coarse", reader, kind, field, n) for n in (2, 3)])
        return [change for change in found if are_let(rules, (change,))]
