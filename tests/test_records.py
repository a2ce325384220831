from givenout.houses import House
from givenout.records import below, guard_lines, head_of, move_lines, rules_lines
from givenout.rules import Rules
from tests.helpers import SMALL, Case

HOUSE = House(SMALL)
RULES = Rules(HOUSE, "reader q\n  is a\nreader r\n  kind k")
GUARD = (("q", "r"), ((("not", ("done", "x", None, 0)), "no"), (("last", "x", "b"), "whether")),
         ((("blank", "r", "k", "w"), ("daily", "q")), (), (("hide", "r", "k"),)))


class RecordsTest(Case):

    def test_lines_so_deep(self):
        self.same([below("a\n  b", depth) for depth in range(3)], [["a", "  b"], ["  a", "    b"], ["    a",
                                                                                                    "      b"]])

    def test_lines_of_guards(self):
        self.same(guard_lines(GUARD),
                  ["guard q r", "  secret no not done x - 0", "  secret whether last x b", "  way",
                   "    blank r k w", "    daily q", "  way", "  way", "    hide r k"])
        self.same(guard_lines((("r",), ((("now", "c", 1), "yes"),), ())), ["guard r", "  secret yes now c 1"])

    def test_heads(self):
        house = ["house"] + ["  " + line for line in SMALL.split("\n")]
        rules = ["rules", "  reader q", "    is a", "  reader r", "    kind k"]
        self.same(head_of(RULES, ()), "\n".join(house + rules + ["run"]))
        other = (("q",), ((("now", "c", 1), "yes"),), ((),))
        self.same(head_of(RULES, (GUARD, other)),
                  "\n".join(house + rules + guard_lines(GUARD) + guard_lines(other) + ["run"]))

    def test_what_is_added(self):
        self.same([move_lines(move) for move in (("night",), ("do", "x", "b", 0))], ["\n  night", "\n  do x b 0"])
        self.same(rules_lines(RULES), "\n  rules\n    reader q\n      is a\n    reader r\n      kind k")
