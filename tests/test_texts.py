from givenout.errors import BadAsk, BadChange, BadPool, BadRun, BadView
from givenout.giving import view
from givenout.houses import House
from givenout.reading import read_ask, read_change, read_run, read_view
from givenout.rules import Rules
from givenout.texts import ask_words, show_ask, show_change, show_item, show_move, show_run, show_view
from tests.helpers import FULL, SMALL, VALUES, Case
from tests.made import some
from tests.test_changes import LET, NO_FORM, NOT_LET

HOUSE = House(FULL)
RULES = Rules(HOUSE, "reader q\n  is ann\n  nights\n  kind k\n    number w\n  kind l\nreader r\n  kind m\nreader s")
NIGHT = ("night",)
X, Y, N = ("do", "x", "cy", 2), ("do", "y", "bob", 0), ("do", "n", "ann", 0)

# A house whose names are words of the texts.
WORDS = House("people night reader did\ncell part 2 0\nkind row\n  who did\n  worth count 2\nkind night\ndeed do\n"
              "  row row who part\ndeed not\n  pick 2\n  row night\nday 2")
WORD_RULES = Rules(WORDS, "reader part\n  is night\n  nights\n  kind row\n    number did\n  kind night\n    counted 2\n"
                          "reader reader\n  kind row\n    blank did\n    blank count")

ITEMS = (
    (("k", ("ann", 3, 1)), "row k ann 3 1"), (("k", ("-", -1, 0)), "row k - - 0"),
    (("k", ("#2", 0, -1)), "row k #2 0 -"), (("k", ("#0", -1, -1)), "row k #0 - -"), (("l", ()), "row l"),
    (("m", (2,)), "row m 2"), (("m", (-1,)), "row m -"), (("did", "x", 2), "did x 2"), (("did", "n", 0), "did n 0"),
    (("count", "k", 0), "count k 0"), (("count", "m", 3), "count m 3"), (("night",), "night"))

ASKS = (
    (("now", "c", 3), "now c 3"), (("done", "x", "ann", 2), "done x ann 2"), (("done", "x", None, 0), "done x - 0"),
    (("done", "y", "bob", None), "done y bob -"), (("today", "z", None, None), "today z - -"),
    (("last", "n", "cy"), "last n cy"), (("often", "x", 2), "often x 2"), (("often", "x", 3), "often x 3"),
    (("worth", "e"), "worth e"), (("who", "y"), "who y"), (("times", "x", 1), "times x 1"),
    (("times", "z", 3), "times z 3"), (("not", ("last", "x", "ann")), "not last x ann"),
    (("and", ("now", "c", 0), ("or", ("now", "d", 1), ("not", ("often", "y", 2)))),
     "and now c 0 or now d 1 not often y 2"),
    (("or", ("and", ("now", "c", 0), ("now", "c", 1)), ("and", ("done", "x", None, None), ("today", "x", "cy", 1))),
     "or and now c 0 now c 1 and done x - - today x cy 1"),
    (("not", ("not", ("not", ("now", "e", 2)))), "not not not now e 2"))

# What is no ask of the house.
NO_ASKS = (
    ("now", "c", 4), ("now", "c", True), ("now", "f", 0), ("now", "c"), ("done", "x", "dot", 0),
    ("done", "x", "ann", 3), ("done", "x", "-", 0), ("done", "x", None, "-"), ("last", "x", None), ("often", "x", 1),
    ("often", "x", 4), ("worth", "x"), ("who", "c"), ("times", "x", 0), ("times", "x", 4), ("not",),
    ("not", ("worth", "c")), ("not", ("not", ("not", ("not", ("now", "c", 0))))), ("and", ("now", "c", 0)),
    ["now", "c", 0], ("and", ("now", "c", 0), ["now", "c", 0]), ("xor", ("now", "c", 0), ("now", "c", 0)),
    ("or", ("or", ("or", ("now", "c", 0), ("now", "c", 0)), ("or", ("now", "c", 0), ("now", "c", 0))), ("now", "c", 0)))


class ShowRunTest(Case):

    def test_moves(self):
        self.same(show_run(HOUSE, ()), "")
        self.same(show_run(HOUSE, (NIGHT,)), "night")
        self.same(show_run(HOUSE, (X, Y, NIGHT, N)), "do x cy 2\ndo y bob 0\nnight\ndo n ann 0")
        self.same(show_run(WORDS, (("do", "do", "night", 0), NIGHT, ("do", "not", "did", 1))),
                  "do do night 0\nnight\ndo not did 1")
        self.same([show_move(move) for move in (X, NIGHT)], ["do x cy 2", "night"])

    def test_runs_are_read_back(self):
        for made in some(120):
            run = made.run(12)
            text = show_run(made.house, run)
            self.same(len(text.split("\n")), max(len(run), 1))
            self.same(read_run(made.house, text), run)

    def test_what_is_no_run(self):
        for run, number in (((X, X), 2), ((N, Y, N, N), 4), ((("do", "x", "bob", 0),), 1), ((Y, None), 2), ([X], 0),
                            ("night", 0), (None, 0), ("", 0), ((NIGHT, list(NIGHT)), 2),
                            ((("do", "y", "bob", True),), 1), ((NIGHT, ("do", "y", "bob", False)), 2), ({}, 0),
                            (NIGHT, 1)):
            self.refuses(BadRun, number, show_run, HOUSE, run)
        for value in VALUES:
            if value != ():
                self.refuses(BadRun, 1 if isinstance(value, tuple) else 0, show_run, HOUSE, value)
            self.refuses(BadRun, 2, show_run, HOUSE, (NIGHT, (value, 0)))

    def test_by_the_names_of_the_document(self):
        self.same(self.takes_names(show_run, HOUSE, (X, NIGHT)), ["house", "run"])


class ShowViewTest(Case):

    def test_items(self):
        for item, line in ITEMS:
            self.same(show_item(item), line)
            self.same(show_view(RULES, ("r",), ((((item,),)),)), "part\n  reader r\n    " + line)

    def test_parts(self):
        pool = ("q", "r", "s")
        self.same(show_view(RULES, pool, ()), "")
        items = tuple([item for item, _ in ITEMS])
        lines = ["    " + line for _, line in ITEMS]
        self.same(show_view(RULES, pool, ((items, (), items),)),
                  "\n".join(["part", "  reader q"] + lines + ["  reader s"] + lines))
        self.same(show_view(RULES, pool, (((), (), (NIGHT, NIGHT)), ((NIGHT,), (("l", ()), NIGHT), ()))),
                  "part\n  reader s\n    night\n    night\n"
                  "part\n  reader q\n    night\n  reader r\n    row l\n    night")
        # In any sequence, and whatever the rules give.
        self.same(show_view(RULES, ("s",), (((NIGHT, ("count", "m", 1), ("did", "z", 0), ("m", (0,)), NIGHT),),)),
                  "part\n  reader s\n    night\n    count m 1\n    did z 0\n    row m 0\n    night")

    def test_names_that_are_words(self):
        run = (("do", "do", "night", 0), ("do", "not", "did", 1), NIGHT)
        self.same(show_view(WORD_RULES, ("part", "reader"), view(WORD_RULES, ("part", "reader"), run)),
                  "part\n  reader part\n    did do 0\n    row row #0 0\n  reader reader\n    row row - -\npart\n"
                  "  reader part\n    count night 1\n    night")

    def test_views_are_read_back(self):
        for made in some(120):
            pool, run = made.pool(), made.run(12)
            told = view(made.rules, pool, run)
            self.same(read_view(made.rules, pool, show_view(made.rules, pool, told)), told)

    def test_what_is_no_view(self):
        for pool, value in ((("q", "t"), None), (["q"], ()), (("r", "q"), ()), ("q", [])):
            self.refuses(BadPool, pool, show_view, RULES, pool, value)
        for value in VALUES:
            self.refuses(BadPool, value, show_view, RULES, value, None)
            if value != ():
                self.refuses(BadView, value, show_view, RULES, ("q",), value)
            if value != NIGHT:
                for bad in (((((value,)),),), ((NIGHT,), (value,)), (((NIGHT, value),),)):
                    self.refuses(BadView, bad, show_view, RULES, ("q",), bad)
            bad = (((("m", (value,)),),),)
            if value not in (-1, 0, 1, 2) or isinstance(value, bool):
                self.refuses(BadView, bad, show_view, RULES, ("q",), bad)
        for bad in ((((),),), (((), ()),), ([(NIGHT,)],), [((NIGHT,),)], (((NIGHT,), ()),), ((list(NIGHT),),),
                    (((["night"],),),), (((("k", ("#3", 0, 0)),),),), (((("k", ("", 0, 0)),),),),
                    (((("k", ("dot", 0, 0)),),),), (((("k", ("ann", 4, 0)),),),), (((("k", ("ann", -2, 0)),),),),
                    (((("l", (0,)),),),), (((("did", "x", 3),),),), (((("did", "w", 0),),),),
                    (((("count", "k", 4),),),), (((("count", "k", True),),),), (((("count", "n", 0),),),)):
            self.refuses(BadView, bad, show_view, RULES, ("q",), bad)

    def test_by_the_names_of_the_document(self):
        self.same(self.takes_names(show_view, RULES, ("q",), (((NIGHT,),),)), ["rules", "pool", "view"])


class ShowAskTest(Case):

    def test_each_ask(self):
        for ask, text in ASKS:
            self.same(show_ask(HOUSE, ask), text)
            self.same(ask_words(ask), text.split(" "))
        self.same(show_ask(WORDS, ("or", ("last", "not", "did"), ("done", "do", "night", 0))),
                  "or last not did done do night 0")

    def test_asks_are_read_back(self):
        for made in some(150):
            ask = made.ask()
            self.same(read_ask(made.house, show_ask(made.house, ask)), ask)

    def test_what_is_no_ask(self):
        for value in VALUES + NO_ASKS:
            self.refuses(BadAsk, value, show_ask, HOUSE, value)

    def test_by_the_names_of_the_document(self):
        self.same(self.takes_names(show_ask, HOUSE, ASKS[1][0]), ["house", "ask"])


class ShowChangeTest(Case):

    def test_each_change(self):
        for change, text in ((("hide", "r", "k"), "hide r k"), (("blank", "r", "k", "w"), "blank r k w"),
                             (("number", "r", "k", "w"), "number r k w"),
                             (("coarse", "r", "k", "v", 2), "coarse r k v 2"),
                             (("coarse", "r", "k", "v", 3), "coarse r k v 3"), (("nightly", "r", "k"), "nightly r k"),
                             (("counted", "r", "k", 1), "counted r k 1"), (("counted", "r", "k", 3), "counted r k 3"),
                             (("daily", "r"), "daily r"), (("nights", "nights"), "nights nights"),
                             (("hide", "hide", "counted"), "hide hide counted")):
            self.same(show_change(change), text)
        for change in [change for change, _, _ in LET] + list(NOT_LET):
            self.same(read_change(show_change(change)), change)

    def test_what_is_no_change(self):
        for value in NO_FORM + VALUES:
            self.refuses(BadChange, value, show_change, value)

    def test_by_the_names_of_the_document(self):
        self.same(self.takes_names(show_change, ("daily", "r")), ["change"])


class NothingIsShownTest(Case):

    def test_of_a_house_with_nothing_to_show(self):
        house = House(SMALL)
        self.same(show_run(house, ()), show_view(Rules(house, "reader r"), ("r",), ()))
