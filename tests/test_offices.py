import itertools

from givenout.asks import answer
from givenout.errors import (
    BadAsk, BadGuards, BadNumber, BadRules, GivenError, NoMove, NothingToRedo, NothingToUndo, NoTrial, Telling, TooMany)
from givenout.giving import view
from givenout.houses import House
from givenout.offices import Office
from givenout.rules import Rules
from givenout.stands import led, moves
from givenout.ways import held
from tests.helpers import BIG, BIG_ASK, BIG_NEVER, SMALL, VALUES, Case
from tests.made import some
from tests.naive_office import NaiveOffice, histories, played
from tests.test_watches import NO_GUARDS, THREE

HOUSE = House(SMALL)
NUMBER = Rules(HOUSE, "reader r\n  kind k\n    number w")
PLAIN = Rules(HOUSE, "reader r\n  kind k")
BLANK = Rules(HOUSE, "reader r\n  kind k\n    blank w")
ANOTHER = Rules(House(SMALL.replace("day 1", "day 2")), "reader r")
BY_A, BY_B, WHO, SOMEBODY = ("done", "x", "a", None), ("done", "x", "b", None), ("who", "x"), ("done", "x", None, None)
XA, XB, NIGHT = ("do", "x", "a", 0), ("do", "x", "b", 0), ("night",)
YES_A = ((BY_A, "yes"),)
GUARD = (("r",), YES_A, ((),))
NONE = ((), (), (0,))
NAMES = ("rules", "guards", "run", "stand", "memories", "threads", "ways", "out", "journal")


def all_of(office):
    """All that can be seen of an office."""
    return [getattr(office, name) for name in NAMES[1:]] + [office.rules.text, list(office)]


def guarded():
    """An office with the guard of the document's example."""
    return Office(NUMBER, guards=(GUARD,))


class OfficeCase(Case):

    def raises(self, error, told, function, *args, **named):
        """As refuses, of a method: nothing of the office is changed."""
        office = function.__self__
        before = all_of(office)
        with self.assertRaises(error) as caught:
            function(*args, **named)
        self.assertIs(type(caught.exception), error)
        self.same(list(vars(caught.exception).values()), told)
        self.same(all_of(office), before)
        return caught.exception


class DoTest(OfficeCase):

    def test_the_example(self):
        office = guarded()
        given = office.do(XA)
        self.same([given, office.ways, office.do(NIGHT), office.do(XB), office.known(0, BY_A)],
                  [(("r", (("k", ("#0",)),)),), (1,), (("r", ()),), (("r", ()),), (False, True)])

    def test_at_first(self):
        office = Office(THREE)
        self.same(all_of(office)[:7] + all_of(office)[8:],
                  [(), (), ((0,), 0), (NONE,) * 3, (), (), (), THREE.text, []])
        self.assertEqual(office.rules, THREE)
        office = guarded()
        self.same((office.guards, office.ways, office.threads),
                  ((GUARD,), (0,), (((((0,), 0), (NONE,), ((False,),)),),)))

    def test_without_guards(self):
        for made in some(60):
            office, run = Office(made.rules), made.run(10)
            out = []
            for move in run:
                out.append(office.do(move))
                self.same([reader for reader, _ in out[-1]], list(made.rules.readers))
            self.same((office.run, office.out, tuple(office)), (run, tuple(out), run))
            self.same(office.stand, led(made.house, run)[0])
            for pool in ((reader,) for reader in made.rules.readers):
                shown = tuple([(dict(entry)[pool[0]],) for entry in out if dict(entry)[pool[0]] != ()])
                self.same(shown, view(made.rules, pool, run))

    def test_threads_ways_and_guards_along_long_runs(self):
        ways = {}
        for made in some(200):
            guards = made.guards()
            plain = NaiveOffice(made.rules, guards)
            if not plain.is_safe:
                self.refuses(Telling, [guard.is_safe() for guard in plain.guards].index(False), Office, made.rules,
                             guards=guards)
                continue
            office = Office(made.rules, guards=guards)
            plans = [dict(held(made.rules, *guard)[1]) for guard in guards]
            for _ in range(made.one(6, 12, 30)):
                move = made.one(*moves(made.house, office.stand))
                may = office.may_give(move)
                given = office.do(move)
                self.same((may, given), (given, plain.do(move)))
                self.same(office.threads, tuple([tuple(sorted(guard.thread)) for guard in plain.guards]))
                self.same(office.ways, tuple([plan[thread] for plan, thread in zip(plans, office.threads)]))
                self.same(office.memories, tuple([plain.memories[reader] for reader in made.rules.readers]))
                ways[office.ways] = True
            self.same((office.stand, office.guards), (plain.stand, guards))
        self.assertGreater(len(ways), 6)

    def test_two_guards_go_on_as_if_alone(self):
        for made in some(150):
            if len(made.rules.readers) < 2:
                continue
            guards = tuple([((reader,), made.secrets(), made.ways((reader,))) for reader in made.rules.readers])
            try:
                both, one, other = [Office(made.rules, guards=row) for row in (guards, guards[:1], guards[1:])]
            except Telling:
                continue
            for move in made.run(12):
                given, first, last = both.do(move), one.do(move), other.do(move)
                self.same(given, (first[0], last[1]))
                self.same((both.ways, both.threads), (one.ways + other.ways, one.threads + other.threads))

    def test_readers_by_the_rules_beside_those_of_a_pool(self):
        office = Office(THREE, guards=((("s",), YES_A, ()),))
        self.same(office.do(XB), (("q", ()), ("r", (("k", ("b",)),)), ("s", ())))
        self.same(office.do(NIGHT), (("q", ()), ("r", ()), ("s", (NIGHT,))))
        self.same(office.do(XA), (("q", (("did", "x", 0),)), ("r", (("k", ("a",)),)), ("s", ())))

    def test_moves_that_are_not_possible(self):
        office = guarded()
        office.do(XA)
        office.undo()
        for value in VALUES + (("do", "x", "c", 0), ("do", "x", "a", 1), ("do", "x", "a", False), list(XA), "do x a 0"):
            if value != NIGHT:
                for method in (office.do, office.may_give):
                    self.assertIs(self.raises(NoMove, [value], method, value).value, value)
        office.redo()
        self.raises(NoMove, [XB], office.do, XB)
        self.raises(NoMove, [XB], office.may_give, XB)
        office.do(NIGHT)
        self.raises(NothingToRedo, [], office.redo)

    def test_may_give_does_nothing(self):
        office = guarded()
        office.do(XA)
        office.undo()
        before = all_of(office)
        self.same(office.may_give(XB), (("r", (("k", ("#0",)),)),))
        self.same(all_of(office), before)
        office.redo()
        self.same(office.run, (XA,))

    def test_guards_that_are_none(self):
        for value in NO_GUARDS:
            self.refuses(BadGuards, value, Office, THREE, guards=value)
        for value in VALUES:
            if value != ():
                self.refuses(BadGuards, value, Office, THREE, guards=value)
        # Ahead of all that cannot be kept.
        lost = (("q",), YES_A, ())
        for guards in ((lost, lost), (lost, (("r",), YES_A, None)), [lost]):
            with self.assertRaises(BadGuards) as caught:
                Office(THREE, guards=guards)
            self.assertIs(caught.exception.value, guards)
        with self.assertRaises(TypeError):
            Office(THREE, ())

    def test_the_first_guard_that_cannot_be_kept(self):
        lost, safe = (("q",), YES_A, ((),)), (("r",), YES_A, ((),))
        for guards, number in (((lost,), 0), ((lost, safe), 0), ((safe, lost), 1),
                               ((safe, (("s",), ((SOMEBODY, "yes"), (("worth", "c"), "yes")), ())), None),
                               ((lost, (("s",), ((("now", "c", 0), "yes"),), ())), 0)):
            if number is None:
                self.refuses(BadGuards, guards, Office, THREE, guards=guards)
            else:
                self.refuses(Telling, number, Office, THREE, guards=guards)

    def test_more_than_is_looked_at(self):
        rules = Rules(House(BIG), "reader q\n  is a\nreader r\nreader s\n  nights")
        lost, big = (("q",), ((("now", "c", 1), "yes"),), ()), (("r",), ((BIG_NEVER, "no"),), ())
        for guards, error, number in (((lost, big), Telling, 0), ((big, lost), TooMany, 2000),
                                      ((big,), TooMany, 2000)):
            self.refuses(error, number, Office, rules, guards=guards)
        office = Office(rules, guards=((("r",), ((("now", "c", 1), "yes"),), ()),))
        self.same(office.known(0, ("worth", "c")), (0, 1, 2, 3))
        self.raises(TooMany, [2000], office.known, 0, BIG_ASK)
        self.raises(BadAsk, [BIG_ASK + (0,)], office.known, 0, BIG_ASK + (0,))

    def test_silence(self):
        office = guarded()
        for move in (XA, NIGHT, XB, NIGHT, XA, NIGHT):
            office.do(move)
        self.same([dict(entry)["r"] for entry in office.out], [(("k", ("#0",)),), (), (), (), (), ()])
        self.same((office.ways, len(office.threads[0])), ((1,), 2))


class ChangeTest(OfficeCase):

    def test_as_it_is_worked_out_plainly(self):
        changes, tellings = 0, 0
        for made in some(150):
            guards = made.guards()
            plain = NaiveOffice(made.rules, guards)
            if not plain.is_safe:
                continue
            office, history = Office(made.rules, guards=guards), []
            for _ in range(made.one(4, 8, 16)):
                if made.is_so(30):
                    rules = made.other_rules()
                    other = NaiveOffice(made.rules, guards)
                    for step in history:
                        other.do(step) if isinstance(step, tuple) else other.change(step)
                    other.change(rules)
                    if not other.is_safe:
                        number = [guard.is_safe() for guard in other.guards].index(False)
                        self.raises(Telling, [number], office.change, rules)
                        tellings += 1
                        continue
                    self.same(office.change(rules), None)
                    plain.change(rules)
                    history.append(rules)
                    changes += 1
                else:
                    move = made.one(*moves(made.house, office.stand))
                    history.append(move)
                    self.same(office.do(move), plain.do(move))
                self.same((office.stand, office.ways), (plain.stand, tuple([guard.way() for guard in plain.guards])))
                self.same(office.memories, tuple([plain.memories[reader] for reader in plain.rules.readers]))
                self.same(office.threads, tuple([tuple(sorted(guard.thread)) for guard in plain.guards]))
                self.same(office.guards, tuple([(guard.pool, guard.secrets, guard.ways) for guard in plain.guards]))
                self.assertEqual(office.rules, plain.rules)
            self.same(office.run, tuple([step for step in history if isinstance(step, tuple)]))
        self.assertGreater(min(changes, 10 * tellings), 50)

    def test_memories_of_those_who_stay_come_and_come_again(self):
        rules = Rules(HOUSE, "reader q\n  kind k\n    number w\n    nightly\nreader r\n  kind k\n    counted 3")
        office = Office(rules)
        office.do(XB)
        kept = ((("b",), (("k", ("#0",)),), (0,)), ((), (), (1,)))
        self.same(office.memories, kept)
        office.change(Rules(HOUSE, "reader p\n  nights\nreader q\n  kind k\n    number w\n    nightly"))
        self.same(office.memories, (NONE, kept[0]))
        office.change(rules)
        self.same(office.memories, (kept[0], NONE))
        # What was due and numbered goes on by the rules that there are now; what was counted is gone with the reader.
        self.same(office.do(NIGHT), (("q", (("k", ("#0",)),)), ("r", ())))
        self.same(office.do(XA), (("q", ()), ("r", ())))
        self.same(office.memories, ((("b", "a"), (("k", ("#1",)),), (0,)), ((), (), (1,))))
        office.change(Rules(HOUSE, "reader q\n  kind k\nreader r\n  nights\n  kind k\n    counted 1"))
        self.same(office.do(NIGHT), (("q", ()), ("r", (("count", "k", 1), NIGHT))))
        self.same(office.memories, ((("b", "a"), (), (0,)), NONE))

    def test_ways_that_fall_for_good(self):
        ways = ((("blank", "r", "k", "w"),), (("nightly", "r", "k"),), ())
        office = Office(NUMBER, guards=((("r",), YES_A, ways),))
        office.change(BLANK)
        self.same((office.guards, office.ways), (((("r",), YES_A, ways[1:]),), (0,)))
        office.change(NUMBER)
        self.same(office.guards, ((("r",), YES_A, ways[1:]),))
        office.change(Rules(HOUSE, "reader s\n  kind k"))
        self.same((office.guards, office.ways), (((("r",), YES_A, ways[2:]),), (0,)))
        office.change(NUMBER)
        self.same(office.guards, ((("r",), YES_A, ways[2:]),))
        office.undo()
        office.undo()
        office.undo()
        office.undo()
        self.same(office.guards, ((("r",), YES_A, ways),))

    def test_readers_of_a_pool_who_are_not_named(self):
        rules = Rules(HOUSE, "reader q\n  kind k\n    number w\nreader r\n  kind k\n    blank w")
        office = Office(rules, guards=((("q", "r"), YES_A, ((),)),))
        office.do(XB)
        memory = office.memories[0]
        self.same(len(office.threads[0]), 2)
        office.change(Rules(HOUSE, "reader p\n  kind k\nreader q\n  kind k\n    number w"))
        self.same((office.guards[0][0], office.memories), (("q", "r"), (NONE, memory)))
        self.same(sorted(set([len(memories) for _, memories, _ in office.threads[0]])), [1])
        office.change(Rules(HOUSE, "reader p\n  kind k"))
        self.same(sorted(set([memories for _, memories, _ in office.threads[0]])), [()])
        self.same((office.do(NIGHT), office.do(XA)), ((("p", ()),), (("p", (("k", ("a",)),)),)))
        self.same((office.known(0, SOMEBODY), office.known(0, BY_A)), ((True,), (False, True)))
        office.change(rules)
        self.same(office.memories, (NONE, NONE))
        self.same(sorted(set([memories for _, memories, _ in office.threads[0]])), [(NONE, NONE)])
        self.same(office.known(0, SOMEBODY), (True,))

    def test_the_thread_becomes_its_lore(self):
        office = guarded()
        office.do(XA)
        self.same((len(office.threads[0]), office.ways), (2, (1,)))
        office.change(NUMBER)
        self.same((len(office.threads[0]), office.ways), (6, (1,)))
        # Somebody may have done it unseen, by now: with a number, or without.
        office = Office(Rules(HOUSE, "reader r"), guards=(GUARD,))
        office.change(NUMBER)
        self.same((len(office.threads[0]), office.ways), (4, (0,)))

    def test_a_change_to_the_same_rules(self):
        many = 0
        for made in some(200):
            guards = made.guards()
            try:
                office = Office(made.rules, guards=guards)
                for move in made.run(6):
                    office.do(move)
                before = office.ways
                office.change(made.rules)
            except Telling:
                continue
            many += before != office.ways
            self.assertEqual(office.rules, made.rules)
            self.same(office.out[-1], ("rules", made.rules.text))
        self.assertGreater(many, 0)

    def test_what_is_out(self):
        office = guarded()
        office.do(XA)
        office.change(BLANK)
        office.do(NIGHT)
        self.same(office.out, ((("r", (("k", ("#0",)),)),), ("rules", BLANK.text), (("r", ()),)))
        self.same((office.run, list(office)), ((XA, NIGHT), [XA, NIGHT]))

    def test_rules_that_are_none_of_the_house(self):
        office = guarded()
        office.do(XA)
        for value in VALUES + (ANOTHER, HOUSE, NUMBER.text):
            error = self.raises(BadRules, [value], office.change, value)
            self.assertIs(error.value, value)
        office.change(Rules(House(SMALL), "reader s"))

    def test_what_cannot_be_kept_changes_nothing(self):
        office = guarded()
        office.do(XA)
        office.do(NIGHT)
        office.undo()
        self.raises(Telling, [0], office.change, Rules(HOUSE, "reader r\n  is a"))
        self.same(office.known(0, BY_A), (False, True))
        office.redo()
        self.same(office.run, (XA, NIGHT))
        rules = Rules(House(BIG), "reader r\nreader s")
        office = Office(rules, guards=((("r",), ((("now", "c", 1), "yes"),), ()),
                                       (("s",), ((("now", "c", 1), "yes"),), ())))
        self.raises(Telling, [1], office.change, Rules(rules.house, "reader s\n  is a"))
        self.raises(Telling, [0], office.change, Rules(rules.house, "reader r\n  is a\nreader s\n  is a"))

    def test_more_than_is_looked_at(self):
        lines = BIG.replace("deed x", "kind k\n  worth v 4\n  worth u 4\ndeed x").replace(
            "set c it", "set c it\n  row k 0 it").replace("set d it", "set d it\n  row k 1 it").replace(
            "set e it", "set e it\n  row k 2 it")
        house = House(lines)
        formula = ("or", ("done", "x", None, 1), ("done", "x", None, 2))
        office = Office(Rules(house, "reader r\nreader s"), guards=((("r",), ((formula, "yes"),), ((),)),))
        self.same(len(office.threads[0]), 1)
        self.raises(TooMany, [2000], office.change, Rules(house, "reader r\n  kind k\n    nightly"))
        # Guards are looked at one by one.
        both = (("r",), ((formula, "yes"),), ((),)), (("s",), ((formula, "yes"),), ((),))
        for guards, error, number in ((both, Telling, 0), (both[::-1], TooMany, 2000)):
            office = Office(Rules(house, "reader r\nreader s"), guards=guards)
            self.raises(error, [number], office.change, Rules(
                house, "reader r\n  is a\n  nights\nreader s\n  kind k\n    nightly"))


class KnownTest(OfficeCase):

    def test_the_guarded_secret_is_never_known(self):
        for made in some(120):
            guards = made.guards()
            try:
                office = Office(made.rules, guards=guards)
            except Telling:
                continue
            for _ in range(8):
                try:
                    if made.is_so(20):
                        office.change(made.other_rules())
                    else:
                        office.do(made.one(*moves(made.house, office.stand)))
                except Telling:
                    pass
                for number, (_, secrets, _) in enumerate(guards):
                    for formula, word in secrets:
                        known = office.known(number, formula)
                        self.assertIn(answer(made.house, office.run, formula), known)
                        self.assertNotIn(known, {"yes": [(True,)], "no": [(False,)]}.get(word, [(True,), (False,)]))

    def test_all_runs_of_which_the_pool_is_shown_the_same(self):
        # Of all histories of some length with these changes of rules: just what is known comes behind those that show
        # the pool what it was shown.
        alike = 0
        for made in some(160):
            guards = made.guards()
            if len(made.house.doings) > 4 or not NaiveOffice(made.rules, guards).is_safe:
                continue
            office, history, ask = Office(made.rules, guards=guards), [], made.ask()
            for _ in range(4):
                try:
                    if made.is_so(25) and len(history) == len(office.run):
                        rules = made.other_rules()
                        office.change(rules)
                        history.append(rules)
                    else:
                        history.append(made.one(*moves(made.house, office.stand)))
                        office.do(history[-1])
                except Telling:
                    pass
            changes = [step for step in history if not isinstance(step, tuple)]
            for number, (pool, _, _) in enumerate(guards):
                shown, given = played(made.rules, guards, pool, history), set()
                for other in histories(made.house, changes, 4):
                    if played(made.rules, guards, pool, other) == shown:
                        run = tuple([step for step in other if isinstance(step, tuple)])
                        given.add(answer(made.house, run, ask))
                known = office.known(number, ask)
                self.same(tuple(sorted(given - set(known))), ())
                alike += tuple(sorted(given)) == known
        self.assertGreater(alike, 10)

    def test_a_night_that_is_not_seen(self):
        office = guarded()
        office.do(XA)
        for ask in (WHO, BY_A, ("today", "x", None, None), ("times", "x", 3)):
            before = office.known(0, ask)
            with office.trial():
                office.do(NIGHT)
                self.same(office.known(0, ask), before)
                office.do(NIGHT)
                self.same(office.known(0, ask), before)

    def test_of_each_guard(self):
        rules = Rules(HOUSE, "reader q\n  kind k\nreader r\n  kind k\n    blank w\nreader s")
        secrets = ((("now", "c", 1), "yes"),)
        office = Office(rules, guards=((("q", "s"), secrets, ((),)), (("r",), secrets, ((),))))
        self.same((office.known(0, WHO), office.known(1, WHO)), (("",), ("",)))
        office.do(XB)
        self.same((office.known(0, WHO), office.known(1, WHO), office.known(1, SOMEBODY)),
                  (("b",), ("a", "b"), (True,)))
        office.undo()
        self.same((office.known(0, WHO), office.known(1, WHO)), (("",), ("",)))

    def test_errors(self):
        office = guarded()
        for value in VALUES + (1, 2, -1, True, False, "0", (0,)):
            if repr(value) != "0":
                self.assertIs(self.raises(BadNumber, [value], office.known, value, None).value, value)
                self.raises(BadNumber, [value], office.known, value, BY_A)
        for value in VALUES + (("who", "y"), ("times", "x", 4), list(BY_A)):
            self.assertIs(self.raises(BadAsk, [value], office.known, 0, value).value, value)
        for number in (0, 1):
            self.raises(BadNumber, [number], Office(NUMBER).known, number, BY_A)


class UndoTest(OfficeCase):

    def test_nothing_to_take_back(self):
        office = guarded()
        self.raises(NothingToUndo, [], office.undo)
        self.raises(NothingToRedo, [], office.redo)
        office.do(NIGHT)
        self.raises(NothingToRedo, [], office.redo)
        self.same((office.undo(), office.run), (None, ()))
        self.raises(NothingToUndo, [], office.undo)
        self.same((office.redo(), office.run), (None, (NIGHT,)))
        self.raises(NothingToRedo, [], office.redo)

    def test_all_is_as_it_was(self):
        for made in some(80):
            try:
                office = Office(made.rules, guards=made.guards())
            except Telling:
                continue
            seen = [all_of(office)]
            for _ in range(10):
                try:
                    if made.is_so(25):
                        office.change(made.other_rules())
                    else:
                        office.do(made.one(*moves(made.house, office.stand)))
                    seen.append(all_of(office))
                except Telling:
                    self.same(all_of(office), seen[-1])
            at = len(seen) - 1
            for _ in range(30):
                if made.is_so(60) and at > 0 or at == len(seen) - 1 and at > 0:
                    office.undo()
                    at -= 1
                elif at < len(seen) - 1:
                    office.redo()
                    at += 1
                self.same(all_of(office), seen[at])
            while at < len(seen) - 1:
                office.redo()
                at += 1
            self.same(all_of(office), seen[-1])
            self.raises(NothingToRedo, [], office.redo)

    def test_what_ends_redoing(self):
        for further in ("do", "change"):
            office = guarded()
            for move in (XA, NIGHT, XB):
                office.do(move)
            office.undo()
            office.undo()
            office.do(NIGHT) if further == "do" else office.change(NUMBER)
            self.raises(NothingToRedo, [], office.redo)
            office.undo()
            office.redo()
            office.undo()
            office.undo()
            self.same(office.run, ())
            office.redo()
            office.redo()
            self.same(office.run, (XA, NIGHT) if further == "do" else (XA,))
            self.raises(NothingToRedo, [], office.redo)

    def test_what_is_refused_does_not_end_redoing(self):
        office = guarded()
        office.do(XA)
        office.do(NIGHT)
        office.undo()
        self.raises(NoMove, [XB], office.do, XB)
        self.raises(BadRules, [None], office.change, None)
        self.raises(Telling, [0], office.change, Rules(HOUSE, "reader r\n  is a"))
        office.may_give(NIGHT)
        office.known(0, BY_A)
        office.redo()
        self.same(office.run, (XA, NIGHT))


class TrialTest(OfficeCase):

    def test_not_kept_and_kept(self):
        office = guarded()
        office.do(XA)
        office.do(NIGHT)
        office.undo()
        before = all_of(office)
        with office.trial() as same:
            self.assertIs(same, office)
            office.do(NIGHT)
            office.change(BLANK)
            office.do(XB)
        self.same(all_of(office), before)
        office.redo()
        self.same(office.run, (XA, NIGHT))
        with office.trial() as same:
            office.do(XB)
            self.same(same.keep(), None)
            office.change(BLANK)
        self.same((office.run, office.rules.text), ((XA, NIGHT, XB), BLANK.text))
        office.undo()
        office.undo()
        self.same(office.run, (XA, NIGHT))

    def test_what_can_be_undone_and_done_again(self):
        office = guarded()
        for move in (XA, NIGHT, XB):
            office.do(move)
        office.undo()
        with office.trial():
            office.undo()
            office.undo()
            self.same(office.run, ())
            self.raises(NothingToUndo, [], office.undo)
            office.do(XB)
            self.raises(NothingToRedo, [], office.redo)
        self.same(office.run, (XA, NIGHT))
        office.redo()
        self.same(office.run, (XA, NIGHT, XB))
        with office.trial() as held_office:
            office.undo()
            office.undo()
            held_office.keep()
        self.same(office.run, (XA,))
        office.redo()
        office.redo()
        self.same(office.run, (XA, NIGHT, XB))

    def test_within_one_another(self):
        for outer, inner, run in ((True, True, (XA, NIGHT, XB)), (True, False, (XA, NIGHT)), (False, True, (XA,)),
                                  (False, False, (XA,))):
            office = guarded()
            office.do(XA)
            with office.trial():
                office.do(NIGHT)
                if outer:
                    office.keep()
                with office.trial():
                    office.do(XB)
                    if inner:
                        office.keep()
                self.same(office.run, (XA, NIGHT, XB) if inner else (XA, NIGHT))
            self.same(office.run, run)
            self.raises(NoTrial, [], office.keep)

    def test_keep_behind_an_inner_trial_is_of_the_outer_one(self):
        office = guarded()
        with office.trial():
            with office.trial():
                office.do(XA)
                office.keep()
            office.keep()
        self.same(office.run, (XA,))

    def test_left_by_an_error(self):
        for kept in (True, False):
            office = guarded()
            office.do(XA)
            before = all_of(office)
            with self.assertRaises(NoMove):
                with office.trial():
                    office.do(NIGHT)
                    if kept:
                        office.keep()
                    office.do(("do", "x", "c", 0))
            self.same(all_of(office), before)
            with self.assertRaises(ZeroDivisionError):
                with office.trial():
                    with office.trial():
                        office.do(NIGHT)
                        office.keep()
                    office.keep()
                    raise ZeroDivisionError("x")
            self.same(all_of(office), before)
            self.raises(NoTrial, [], office.keep)

    def test_an_inner_trial_that_is_left_by_an_error(self):
        for outer, inner, run in ((True, True, (XA, NIGHT)), (True, False, (XA, NIGHT)), (False, True, (XA,)),
                                  (False, False, (XA,))):
            office = guarded()
            office.do(XA)
            with office.trial():
                office.do(NIGHT)
                if outer:
                    office.keep()
                with self.assertRaises(ZeroDivisionError):
                    with office.trial():
                        office.do(XB)
                        if inner:
                            office.keep()
                        raise ZeroDivisionError("x")
                self.same(office.run, (XA, NIGHT))
            self.same(office.run, run)
            self.raises(NoTrial, [], office.keep)

    def test_an_error_that_is_caught_within(self):
        office = guarded()
        with office.trial():
            office.keep()
            try:
                with office.trial():
                    office.do(XA)
                    office.keep()
                    office.undo()
                    office.undo()
            except NothingToUndo:
                office.do(NIGHT)
        self.same(office.run, (NIGHT,))

    def test_keep_outside_of_one(self):
        office = guarded()
        self.raises(NoTrial, [], office.keep)
        trial = office.trial()
        self.raises(NoTrial, [], office.keep)
        with trial:
            office.keep()
        self.raises(NoTrial, [], office.keep)

    def test_tried(self):
        office = guarded()
        before = all_of(office)
        for value in (False, None, 1, 0, "True", (True,), [True], {}):
            self.same(office.tried(lambda same: same.do(XA), keep=value), (("r", (("k", ("#0",)),)),))
            self.same(all_of(office), before)
        self.same(office.tried(lambda same: same.do(XA)), (("r", (("k", ("#0",)),)),))
        self.same(office.tried(lambda same: same.run), ())
        self.assertIs(office.tried(lambda same: same), office)
        self.same(office.tried(lambda same: None), None)
        self.same(all_of(office), before)
        self.same(office.tried(lambda same: same.do(XA), keep=True), (("r", (("k", ("#0",)),)),))
        self.same(office.run, (XA,))
        self.same(office.tried(keep=True, look=lambda same: same.undo()), None)
        self.same(office.run, ())
        self.raises(NoTrial, [], office.keep)
        with self.assertRaises(TypeError):
            office.tried(lambda same: 1, True)

    def test_tried_and_left_by_an_error(self):
        office = guarded()

        def wrong(same):
            same.do(XA)
            same.keep()
            same.do(XB)

        for keep in (True, False):
            self.raises(NoMove, [XB], office.tried, wrong, keep=keep)
            self.raises(NoTrial, [], office.keep)
        # What looks may keep it by itself, and may try within.
        office.tried(lambda same: (same.do(XA), same.keep()))
        self.same(office.run, (XA,))
        office.tried(lambda same: (same.tried(lambda again: again.do(NIGHT), keep=True), same.do(XB)))
        self.same(office.run, (XA,))
        office.tried(lambda same: same.tried(lambda again: again.do(NIGHT)), keep=True)
        self.same(office.run, (XA,))
        office.tried(lambda same: same.tried(lambda again: again.do(NIGHT), keep=True), keep=True)
        self.same(office.run, (XA, NIGHT))


class CopyTest(OfficeCase):

    def test_each_goes_on_by_itself(self):
        office = guarded()
        for move in (XA, NIGHT, XB):
            office.do(move)
        office.undo()
        other = office.copy()
        self.same((type(other) is Office, all_of(other)), (True, all_of(office)))
        other.redo()
        self.same((other.run, office.run), ((XA, NIGHT, XB), (XA, NIGHT)))
        office.change(BLANK)
        self.raises(NothingToRedo, [], office.redo)
        other.undo()
        other.undo()
        other.undo()
        self.raises(NothingToUndo, [], other.undo)
        self.same((office.run, office.rules.text, other.rules.text), ((XA, NIGHT), BLANK.text, NUMBER.text))
        self.same((other.known(0, WHO), office.known(0, SOMEBODY)), (("",), (True,)))
        for _ in range(3):
            other.redo()
        self.same(other.run, (XA, NIGHT, XB))

    def test_from_within_a_trial(self):
        office = guarded()
        with office.trial():
            office.do(XA)
            office.keep()
            with office.trial():
                office.do(NIGHT)
                other = office.copy()
        self.same((office.run, other.run), ((XA,), (XA, NIGHT)))
        self.raises(NoTrial, [], other.keep)
        other.undo()
        other.undo()
        self.raises(NothingToUndo, [], other.undo)
        with office.trial():
            other = office.copy()
            with other.trial():
                other.do(NIGHT)
                other.keep()
                self.raises(NoTrial, [], office.copy().keep)
            office.do(NIGHT)
        self.same((office.run, other.run), ((XA,), (XA, NIGHT)))

    def test_behind_changes_of_rules(self):
        for made in some(50):
            try:
                office = Office(made.rules, guards=made.guards())
                office.change(made.other_rules())
            except Telling:
                continue
            for move in made.run(0) or (NIGHT,):
                office.do(move)
            other = office.copy()
            self.same(all_of(other), all_of(office))
            self.assertEqual(other, office)
            self.same(other.do(NIGHT), office.do(NIGHT))
            other.undo()
            other.undo()
            other.undo()
            self.same(all_of(other), all_of(Office(made.rules, guards=other.guards)))


class EqualityTest(OfficeCase):

    def test_offices_that_did_the_same(self):
        one, other = guarded(), Office(Rules(House(SMALL), NUMBER.text), guards=(GUARD,))
        self.assertEqual(one, other)
        self.assertFalse(one != other)
        one.do(XA)
        self.assertNotEqual(one, other)
        other.do(XB)
        self.assertNotEqual(one, other)
        other.undo()
        self.assertNotEqual(one, other)
        other.do(XA)
        self.assertEqual(one, other)
        other.do(NIGHT)
        other.undo()
        with one.trial():
            one.change(BLANK)
            self.assertNotEqual(one, other)
        self.assertEqual(one, other)
        self.assertEqual(one, one.copy())

    def test_with_other_beginnings(self):
        offices = [Office(NUMBER), guarded(), Office(NUMBER, guards=(GUARD[:2] + ((),),)), Office(BLANK),
                   Office(Rules(ANOTHER.house, NUMBER.text)), Office(NUMBER, guards=((("r",), YES_A * 2, ((),)),)),
                   Office(NUMBER, guards=((("r",), ((BY_B, "yes"),), ((),)),)),
                   Office(NUMBER, guards=((("r",), ((BY_A, "no"),), ((),)),))]
        for one, other in itertools.combinations(offices, 2):
            self.assertNotEqual(one, other)
        for office in offices:
            self.assertEqual(office, office.copy())

    def test_with_a_change_at_another_place(self):
        one, other, third = Office(NUMBER), Office(NUMBER), Office(NUMBER)
        one.change(NUMBER)
        one.do(NIGHT)
        other.do(NIGHT)
        other.change(NUMBER)
        third.do(NIGHT)
        self.same([one == other, one == third, other == third], [False] * 3)
        one.undo()
        one.undo()
        one.do(NIGHT)
        self.same([one == other, one == third], [False, True])

    def test_equal_to_nothing_else(self):
        office = Office(NUMBER)
        for value in VALUES + (office.journal, NUMBER, HOUSE, NUMBER.text):
            self.same([office == value, value == office, office != value], [False, False, True])


class NamesTest(OfficeCase):

    def test_by_the_names_of_the_document(self):
        for by_name in (True, False):
            office = Office(rules=NUMBER, guards=(GUARD,)) if by_name else Office(NUMBER, guards=(GUARD,))
            if by_name:
                told = [office.may_give(move=XA), office.do(move=XA), office.change(rules=BLANK),
                        office.known(ask=BY_A, number=0), office.tried(look=lambda same: same.run)]
            else:
                told = [office.may_give(XA), office.do(XA), office.change(BLANK), office.known(0, BY_A),
                        office.tried(lambda same: same.run)]
            self.same(told, [(("r", (("k", ("#0",)),)),)] * 2 + [None, (False, True), (XA,)])

    def test_each_attribute_is_set_when_it_is_created(self):
        for name in NAMES:
            self.assertIn(name, vars(Office(NUMBER)))

    def test_equal_calls_return_equal_results(self):
        office = guarded()
        office.do(XA)
        for _ in range(2):
            self.same([office.may_give(NIGHT), office.known(0, WHO), list(office)], [(("r", ()),), ("a", "b"), [XA]])
        self.assertTrue(issubclass(Telling, GivenError))
