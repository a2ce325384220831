from givenout.errors import BadPool, BadRun, BadText
from givenout.houses import House
from givenout.reading import ask_of, change_of, move_of, read_ask, read_change, read_run, read_view
from givenout.rules import Rules
from givenout.texts import show_ask, show_run, show_view
from tests.helpers import FULL, VALUES, Case
from tests.made import some
from tests.test_texts import ASKS, ITEMS, WORD_RULES, WORDS

HOUSE = House(FULL)
RULES = Rules(HOUSE, "reader q\n  is ann\n  nights\n  kind k\n    number w\n  kind l\nreader r\n  kind m\nreader s")
POOL = ("q", "r", "s")
NIGHT = ("night",)
X, Y, N = ("do", "x", "cy", 2), ("do", "y", "bob", 0), ("do", "n", "ann", 0)
NO_STRINGS = tuple([value for value in VALUES if not isinstance(value, str)])

# Lines of moves that have no such form.
NO_MOVES = ("", " ", "do", "do x", "do x cy", "do x cy 2 ", "do x cy 2 0", " do x cy 2", "do  x cy 2", "do x cy  2",
            "Do x cy 2", "do x cy 02", "do x cy -1", "do x cy +1", "do x cy 1234567890", "do x cy it", "do x 2 cy",
            "do x cy -", "nights", "night ", " night", "night night", "night 0", "do X cy 2", "do x Cy 2",
            "do xxxxxxxxx cy 2", "do x cy 2\t", "do\tx cy 2", "x cy 2", "  do x cy 2", "do x cy 2;night", "do x cy 2\r",
            "do x - 2", "do - cy 2", "-")


class ReadRunTest(Case):

    def bad(self, text, number):
        self.refuses(BadText, number, read_run, HOUSE, text)

    def test_what_is_shown_is_read(self):
        for run in ((), (NIGHT,), (X,), (X, Y, NIGHT, N), (NIGHT,) * 40):
            self.same(read_run(HOUSE, show_run(HOUSE, run)), run)
        self.same(read_run(WORDS, "do do night 0\nnight\ndo not did 1"),
                  (("do", "do", "night", 0), NIGHT, ("do", "not", "did", 1)))

    def test_lines_that_have_no_form(self):
        for line in NO_MOVES:
            self.bad(line + "\nnight", 1)
            self.bad("night\ndo x cy 2\n" + line + "\nnight", 3)
            if line != "":
                self.bad(line, 1)
            self.bad("night\n" + line, 2)
            # Ahead of what is not possible.
            self.bad("do n ann 9\n" + line, 2)

    def test_what_is_no_string(self):
        for value in NO_STRINGS:
            self.bad(value, 0)
        for value in ("x", "text of words", "a"):
            self.bad(value, 1)
        self.same(read_run(HOUSE, ""), ())
        self.bad("\n", 1)
        self.bad("night\n", 2)
        self.bad("\nnight", 1)

    def test_moves_that_are_not_possible(self):
        for text, number in (("do x cy 2\ndo x cy 2", 2), ("do x bob 0", 1), ("do w ann 0", 1), ("do x dot 0", 1),
                             ("do x cy 3", 1), ("do n ann 0\nnight\ndo n ann 1", 3), ("do n ann 123456789", 1),
                             ("do n ann 0\ndo n ann 0\ndo n ann 0\ndo n ann 0", 4), ("night\ndo abcdefgh cy 0", 2)):
            self.refuses(BadRun, number, read_run, HOUSE, text)

    def test_moves_by_their_form(self):
        self.same(move_of(["night"]), NIGHT)
        self.same(move_of(["do", "abc", "de", "999999999"]), ("do", "abc", "de", 999999999))
        for line in NO_MOVES:
            self.same(move_of(line.split(" ")), None)

    def test_by_the_names_of_the_document(self):
        self.same(self.takes_names(read_run, HOUSE, "night\ndo x cy 2"), ["house", "text"])


class ReadViewTest(Case):

    def bad(self, text, number, pool=POOL):
        self.refuses(BadText, number, read_view, RULES, pool, text)

    def test_what_is_shown_is_read(self):
        items = tuple([item for item, _ in ITEMS])
        for value in ((), ((items, (), ()),), (((), items, items[::-1]), (items[:1], items[:1], ()), ((), (), items))):
            self.same(read_view(RULES, POOL, show_view(RULES, POOL, value)), value)
        for item, line in ITEMS:
            self.same(read_view(RULES, ("s",), "part\n  reader s\n    " + line), (((item,),),))
        text = "part\n  reader part\n    did do 0\n    row row #0 0\n  reader reader\n    row row - -"
        self.same(read_view(WORD_RULES, ("part", "reader"), text),
                  (((("did", "do", 0), ("row", ("#0", 0))), (("row", ("-", -1)),)),))

    def test_lines_that_cannot_stand_there(self):
        for text, number in (
                ("part", 2), ("part\n  reader q", 3), ("  reader q", 1), ("    night", 1), ("part\n    night", 2),
                ("part\npart", 2), ("part\n  reader q\npart", 3), ("part\n  reader q\n  reader r\n    night", 3),
                ("part\n  reader q\n    night\n  reader q\n    night", 4),
                ("part\n  reader r\n    night\n  reader q\n    night", 4), ("part\n  reader t\n    night", 2),
                ("part\n  reader\n    night", 2), ("part\n  reader q r\n    night", 2), ("part q\n  reader q", 1),
                ("part \n  reader q\n    night", 1), (" part", 1), ("Part", 1), ("parts", 1), ("", 0), ("\n", 1),
                ("part\n  reader q\n    night\n", 4), ("part\n  reader q\n  night", 3),
                ("part\n reader q\n    night", 2), ("part\n  reader q\n    night\n    part", 4),
                ("part\n  reader q\n    night\n  part", 4), ("part\n  reader q\n     night", 3),
                ("part\n  reader q\n    night\nreader r", 4), ("part\n  reader q\n    night\n  reader s", 5),
                ("part\n  reader q\n    night\npart\n", 5), ("part\n  Reader q\n    night", 2),
                ("part\n   reader q\n    night", 2),
                ("part\nxxreader q\n    night", 2), ("part\n  reader q\nxxxxnight", 3),
                ("part\n  reader q\n  xxnight", 3)):
            if number > 0:
                self.bad(text, number)
        self.bad("part\n  reader r\n    night", 2, ("q", "s"))
        self.bad("part\n  reader q\n    night\n  reader r\n    night", 4, ("q",))

    def test_items_that_have_no_form(self):
        for line in ("", "night ", " night", "nights", "did x", "did x 3", "did x 01", "did x -1", "did w 0",
                     "did x 0 0", "did x -", "row", "row n", "row k", "row k ann 3", "row k ann 3 1 0", "row k dot 3 1",
                     "row k ann 4 1", "row k ann 3 2", "row k ann -1 1", "row k #3 3 1", "row k # 3 1", "row k 0 3 1",
                     "row k ann 03 1", "row k ann - -1", "row k ann  1", "row k ann 3 1 ", "row l ", "row l -",
                     "row m #0", "row m ann", "row m 3", "row m --", "count k 4", "count k -1", "count k 00", "count k",
                     "count n 0", "count k 1 1", "count - 0", "Row m 0", "item m 0", "m 0", "rows m 0", "did x 0\t",
                     "row\tm 0", "row m 1234567890"):
            self.bad("part\n  reader q\n    " + line, 3)
            self.bad("part\n  reader q\n    night\n    " + line + "\n    night", 4)
            self.bad("part\n  reader q\n    row m 0\n  reader s\n    night\n    did x 0\n    " + line, 7)

    def test_lines_otherwise_at_each_place(self):
        text = ("part\n  reader q\n    did x 2\n    row m -\n  reader s\n    night\n"
                "part\n  reader r\n    row l\n    count k 0")
        lines = text.split("\n")
        self.same(show_view(RULES, POOL, read_view(RULES, POOL, text)), text)
        for at, line in enumerate(lines):
            for bad in ("", line + " ", " " + line, line + " 0", line.upper(), "x", line.replace(" ", "", 1) + "!"):
                self.bad("\n".join(lines[:at] + [bad] + lines[at + 1:]), at + 1)
            # Without the line what comes behind it may still stand there; else it is refused there or behind it.
            left = "\n".join(lines[:at] + lines[at + 1:])
            try:
                self.same(show_view(RULES, POOL, read_view(RULES, POOL, left)), left)
            except BadText as error:
                self.assertGreaterEqual(error.number, at + 1)

    def test_cut_off_at_each_place(self):
        text = "part\n  reader q\n    did x 2\n    row m -\n  reader s\n    night\npart\n  reader r\n    row l"
        lines = text.split("\n")
        good = [0, 3, 4, 6, 9]
        for many in range(len(lines) + 1):
            cut = "\n".join(lines[:many])
            if many in good:
                self.same(show_view(RULES, POOL, read_view(RULES, POOL, cut)), cut)
            else:
                self.bad(cut, many + 1)

    def test_what_is_no_string_and_no_pool(self):
        for value in NO_STRINGS:
            self.bad(value, 0)
        for value in VALUES + (("t",), ("r", "q"), ["q"], "q"):
            self.refuses(BadPool, value, read_view, RULES, value, None)
            self.refuses(BadPool, value, read_view, RULES, value, "part")

    def test_views_that_no_run_has(self):
        text = "part\n  reader s\n    count k 3\n    night\n    night"
        self.same(read_view(RULES, ("s",), text), (((("count", "k", 3), NIGHT, NIGHT),),))

    def test_by_the_names_of_the_document(self):
        self.same(self.takes_names(read_view, RULES, ("q",), "part\n  reader q\n    night"), ["rules", "pool", "text"])


class ReadAskTest(Case):

    def bad(self, text, number=1):
        self.refuses(BadText, number, read_ask, HOUSE, text)

    def test_what_is_shown_is_read(self):
        for ask, text in ASKS:
            self.same(read_ask(HOUSE, text), ask)
        for made in some(100):
            ask = made.ask()
            self.same(read_ask(made.house, show_ask(made.house, ask)), ask)
        self.same(read_ask(WORDS, "and last not did often do 2"), ("and", ("last", "not", "did"), ("often", "do", 2)))

    def test_words_otherwise(self):
        for _, text in ASKS:
            words = text.split(" ")
            for at, word in enumerate(words):
                for bad in ("", "?", word.upper() if word != "-" else "--", word + " ", " " + word, "01", "1234567890",
                            word + "\n", "-1"):
                    if bad != word:
                        self.bad(" ".join(words[:at] + [bad] + words[at + 1:]))
                left = " ".join(words[:at] + words[at + 1:])
                if word == "not":
                    self.same(show_ask(HOUSE, read_ask(HOUSE, left)), left)
                else:
                    self.bad(left)
            self.bad(text + " 0")
            self.bad(text + " " + words[-1])
            self.bad(text + "\n" + text)
            self.bad(text + " ")
            self.bad(" " + text)

    def test_what_is_none(self):
        for text in ("", " ", "\n", "not", "and", "or", "not worth c", "not who x", "and now c 0",
                     "and now c 0 worth c", "or now c 0 times x 1", "xor now c 0 now c 1", "now", "now c", "now f 0",
                     "now c 4", "now c -", "worth", "worth x", "worth -", "who c", "who -", "times x 0", "times x 4",
                     "times x -", "often x 1", "often x 4", "often - 2", "last x -", "last - cy", "last x dot",
                     "done x", "done x - -1", "done x - 3", "done - - -", "done x cy", "done x cy 0 0", "today x 0 cy",
                     "- - - -", "done x ann None", "now c c", "now c\t0"):
            self.bad(text)
        for value in NO_STRINGS:
            self.bad(value, 0)

    def test_deep_and_wide(self):
        leaf = "now c 0"
        for many in range(6):
            text = "not " * many + leaf
            if many < 4:
                self.same(show_ask(HOUSE, read_ask(HOUSE, text)), text)
            else:
                self.bad(text)
        four = " ".join(["or and", leaf, leaf, "and", leaf, leaf])
        self.same(show_ask(HOUSE, read_ask(HOUSE, four)), four)
        for text in (" ".join(["or and", leaf, leaf, "and", leaf, "or", leaf, leaf]),
                     " ".join(["and or and", leaf, leaf, "and", leaf, leaf, leaf]), "not " * 1999 + leaf, "not " * 1999,
                     "and " * 1999 + leaf, "or " * 15 + (leaf + " ") * 15 + leaf, " ".join([leaf] * 500)):
            self.bad(text)
        deep = " ".join(["or", leaf, "or", leaf, "or", leaf, leaf])
        self.same(read_ask(HOUSE, deep)[2][2][2], ("now", "c", 0))

    def test_words_that_tell_an_ask(self):
        self.same(ask_of(HOUSE, ["who", "x"]), ("who", "x"))
        for words in ([], [""], ["who"], ["who", "x", "x"], ["not"]):
            self.same(ask_of(HOUSE, words), None)

    def test_by_the_names_of_the_document(self):
        self.same(self.takes_names(read_ask, HOUSE, "done x - 0"), ["house", "text"])


class ReadChangeTest(Case):

    TEXTS = ("hide r k", "blank r k w", "number r k w", "coarse r k v 2", "coarse r k v 3", "nightly r k",
             "counted r k 1", "counted r k 3", "daily r", "nights r", "nights nights", "hide hide hide",
             "daily abcdefgh")

    def bad(self, text, number=1):
        self.refuses(BadText, number, read_change, text)

    def test_each_change(self):
        self.same([read_change(text) for text in self.TEXTS[:8]],
                  [("hide", "r", "k"), ("blank", "r", "k", "w"), ("number", "r", "k", "w"),
                   ("coarse", "r", "k", "v", 2), ("coarse", "r", "k", "v", 3), ("nightly", "r", "k"),
                   ("counted", "r", "k", 1), ("counted", "r", "k", 3)])
        self.same([read_change(text) for text in self.TEXTS[8:]],
                  [("daily", "r"), ("nights", "r"), ("nights", "nights"), ("hide", "hide", "hide"),
                   ("daily", "abcdefgh")])

    def test_words_otherwise(self):
        for text in self.TEXTS:
            words = text.split(" ")
            for at, word in enumerate(words):
                for bad in ("", "?", word.upper() + "!", word + " ", " " + word, "02", "4", "0", "-1", "1234567890",
                            "-"):
                    self.bad(" ".join(words[:at] + [bad] + words[at + 1:]))
                self.bad(" ".join(words[:at] + words[at + 1:]))
            for more in (" 0", " r", " ", "\n", "\n" + text, "x" * 9):
                self.bad(text + more)
            self.bad(" " + text)

    def test_what_is_none(self):
        for text in ("", " ", "\n", "hide", "coarse", "counted", "coarse r k v", "counted r k", "coarse r k v 1",
                     "coarse r k 2", "counted r k 0", "counted r k 4", "counted r k v 1", "show r k", "is r ann",
                     "only r k", "reader r", "hide r k v", "daily r k", "hide R k", "hide r abcdefghi", "hide r 0",
                     "blank r k 0"):
            self.bad(text)
        for value in NO_STRINGS:
            self.bad(value, 0)

    def test_words_that_tell_a_change(self):
        self.same(change_of(["daily", "r"]), ("daily", "r"))
        for words in ([""], ["daily"], ["daily", "r", "r"], ["counted"], ["coarse", "2"]):
            self.same(change_of(words), None)

    def test_by_the_names_of_the_document(self):
        self.same(self.takes_names(read_change, "hide r k"), ["text"])
