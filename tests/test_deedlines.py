from givenout.deedlines import source_of_person, source_of_worth, take_deed, worked_out
from givenout.errors import BadText
from givenout.lines import Lines
from tests.helpers import Case

CELLS = (("c", 4, 3), ("d", 2, 0), ("who", 3, 1))
KINDS = (("k", (("w", None), ("v", 4))), ("l", ()))


def lines_of(*rows):
    return Lines("\n".join(rows))


class DeedLinesTest(Case):

    def test_where_worths_come_from(self):
        for word, source in (("it", ("it", 0)), ("c", ("cell", 0)), ("who", ("cell", 2)), ("3", ("plain", 3))):
            self.same(source_of_worth(lines_of(""), word, 4, CELLS, 2), source)
        for word in ("c", "who", "it", "2", "x", "-", ""):
            self.refuses(BadText, 0, lambda: source_of_worth(lines_of(""), word, 2, CELLS, 3))

    def test_where_people_come_from(self):
        self.same(source_of_person(lines_of(""), "who", ("a", "it")), ("who", 0))
        self.same(source_of_person(lines_of(""), "it", ("a", "it")), ("plain", "it"))
        for word in ("b", "0", "", "c"):
            self.refuses(BadText, 0, lambda: source_of_person(lines_of(""), word, ("a", "it")))

    def test_what_comes_from_there(self):
        for source, told in (
                (("cell", 1), 7), (("it", 0), 2), (("who", 0), "a"), (("plain", "b"), "b"), (("plain", 5), 5)):
            self.same(worked_out(source, [6, 7], "a", 2), told)

    def test_a_deed_with_all_lines(self):
        lines = lines_of("deed x", "  by b", "  if c != 3", "  if d = 0", "  pick 2", "  set d it", "  add c d",
                         "  row k who it", "  row l", "day 1")
        deed = take_deed(lines, ("a", "b"), CELLS, KINDS, [])
        self.same((deed.name, deed.by, deed.pick), ("x", ("b",), 2))
        self.same(deed.tests, [(0, False, 3), (1, True, 0)])
        self.same(deed.changes, [("set", 1, ("it", 0)), ("add", 0, ("cell", 1))])
        self.same(deed.rows, [("k", (("who", 0), ("it", 0))), ("l", ())])
        self.same(lines.number, 9)

    def test_a_deed_without_lines(self):
        deed = take_deed(lines_of("deed x"), ("a", "b"), CELLS, KINDS, ["y"])
        self.same((deed.by, deed.tests, deed.pick, deed.changes, deed.rows), (("a", "b"), [], 1, [], []))

    def test_a_name_that_is_there(self):
        self.refuses(BadText, 1, lambda: take_deed(lines_of("deed x"), ("a", "b"), CELLS, KINDS, ["y", "x"]))
