from givenout.errors import NoMove, Telling
from givenout.giving import first_memory, gives
from givenout.houses import House
from givenout.rules import Rules
from givenout.stands import after, first_stand
from givenout.states import first_state, led_on, shown_by, with_rules
from tests.helpers import SMALL, VALUES, Case
from tests.made import some

HOUSE = House(SMALL)
NUMBER = Rules(HOUSE, "reader r\n  kind k\n    number w")
BY_A = ("done", "x", "a", None)
GUARD = (("r",), ((BY_A, "yes"),), ((),))
XA, XB, NIGHT = ("do", "x", "a", 0), ("do", "x", "b", 0), ("night",)
NONE = ((), (), (0,))


class StateTest(Case):

    def test_the_first_state(self):
        state = first_state(NUMBER, (GUARD,))
        self.same((state.stand, state.memories, state.guards, state.places, state.ways), (((0,), 0), (NONE,), (GUARD,),
                                                                                          (0,), (0,)))
        self.same(state.threads, (((((0,), 0), (NONE,), ((False,),)),),))

    def test_each_reader_has_rules(self):
        rules = Rules(HOUSE, "reader q\n  kind k\nreader r\n  kind k\n    number w\nreader s\n  nights\n  kind k")
        state = first_state(rules, (GUARD, (("s",), ((BY_A, "yes"),), ())))
        self.same([state.rules_for(reader).text for reader in rules.readers],
                  [rules.text, rules.text, "reader q\n  kind k\nreader r\n  kind k\n    number w\nreader s\n  nights"])
        entry, behind = led_on(state, XA)
        self.same(entry, (("q", (("k", ("a",)),)), ("r", (("k", ("#0",)),)), ("s", ())))
        self.same((behind.ways, behind.places), ((1, 0), (behind.places[0], 0)))
        entry, last = led_on(behind, NIGHT)
        self.same(entry, (("q", ()), ("r", ()), ("s", (NIGHT,))))
        self.same(last.places[0], behind.places[0])
        self.same(state.ways, (0, 0))

    def test_without_guards_all_are_given_by_the_rules(self):
        for made in some(60):
            state, stand = first_state(made.rules, ()), first_stand(made.house)
            memories = [first_memory(made.house) for _ in made.rules.readers]
            for move in made.run(8):
                stand, rows = after(made.house, stand, move)
                each = [gives(made.rules, reader, memory, move, rows)
                        for reader, memory in zip(made.rules.readers, memories)]
                memories = [memory for _, memory in each]
                entry, state = led_on(state, move)
                self.same(entry, tuple([(reader, items) for reader, (items, _) in zip(made.rules.readers, each)]))
                self.same((state.stand, state.memories), (stand, tuple(memories)))

    def test_what_is_shown(self):
        entry = (("q", (NIGHT,)), ("r", ()), ("s", (("did", "x", 0),)))
        self.same([shown_by(entry, readers) for readers in (("q", "s"), ("r",), (), ("q", "r", "s"))],
                  [((NIGHT,), (("did", "x", 0),)), ((),), (), ((NIGHT,), (), (("did", "x", 0),))])

    def test_moves_that_are_not_possible(self):
        state = led_on(first_state(NUMBER, ()), XA)[1]
        for value in VALUES + (XB, ("do", "x", "c", 0), ("do", "x", "a", 1), ["night"]):
            if value != NIGHT:
                with self.assertRaises(NoMove) as caught:
                    led_on(state, value)
                self.assertIs(caught.exception.value, value)


class WithRulesTest(Case):

    def test_memories_go_on(self):
        both = Rules(HOUSE, "reader q\n  kind k\n    counted 3\nreader r\n  kind k\n    number w")
        state = led_on(first_state(both, ()), XB)[1]
        self.same(state.memories, (((), (), (1,)), (("b",), (), (0,))))
        for text, memories in (("reader p\nreader r", (NONE, state.memories[1])), ("reader q", state.memories[:1]),
                               ("reader s", (NONE,)), (both.text, state.memories)):
            self.same(with_rules(state, Rules(HOUSE, text)).memories, memories)
        self.same(with_rules(with_rules(state, NUMBER), both).memories, (NONE, state.memories[1]))

    def test_threads_become_their_lores(self):
        state = led_on(first_state(NUMBER, (GUARD,)), XA)[1]
        self.same(len(state.threads[0]), 2)
        behind = with_rules(state, NUMBER)
        self.same((len(behind.threads[0]), behind.places, behind.guards), (6, (0,), (GUARD,)))
        self.same(with_rules(behind, NUMBER).threads, behind.threads)

    def test_a_thread_that_is_not_safe(self):
        state = first_state(NUMBER, (GUARD,))
        with self.assertRaises(Telling) as caught:
            with_rules(state, Rules(HOUSE, "reader r\n  is a"))
        self.same(caught.exception.number, 0)
        self.same(with_rules(state, Rules(HOUSE, "reader q\n  is a")).guards, (GUARD[:2] + (((),),),))
