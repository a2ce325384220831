from givenout.cases import first_case
from givenout.errors import Telling, TooMany
from givenout.houses import House
from givenout.rules import Rules
from givenout.watches import Watch, are_guards, as_named, formulas_of, watches_by
from givenout.ways import held
from tests import naive_ways
from tests.helpers import BIG, BIG_NEVER, SMALL, VALUES, Case
from tests.made import some

HOUSE = House(SMALL)
NUMBER = Rules(HOUSE, "reader r\n  kind k\n    number w")
THREE = Rules(HOUSE, "reader q\n  is a\nreader r\n  kind k\nreader s\n  nights\n  kind k")
BY_A, BY_B = ("done", "x", "a", None), ("done", "x", "b", None)
YES_A = ((BY_A, "yes"),)
NONE = ((), (), (0,))
GUARD = (("r",), YES_A, ((),))

# What are no guards of THREE.
NO_GUARDS = (
    [], [GUARD], GUARD, (GUARD, GUARD), (list(GUARD),), (GUARD[:2],), (GUARD + ((),),), ((("r",), (), ()),),
    ((["r"], YES_A, ()),), (((), YES_A, ()),), ((("r", "q"), YES_A, ()),), ((("t",), YES_A, ()),), (("r", YES_A, ()),),
    ((("r",), YES_A, [()]),), ((("r",), YES_A, ((), ())),), ((("r",), YES_A, ((("blank", "s", "k", "w"),),)),),
    ((("r",), YES_A, ((("daily", "r"),), (), (("hide", "r", "k"),), (("nightly", "r", "k"),),
                      (("number", "r", "k", "w"),))),),
    ((("r",), ((("who", "x"), "yes"),), ()),), ((("r",), ((BY_A, "never"),), ()),), ((("r",), YES_A * 4, ()),),
    ((("q", "r"), YES_A, ()), (("r", "s"), YES_A, ())), ((("q",), YES_A, ()), GUARD, (("s",), YES_A, ())),
    (GUARD, None), ((("r",), YES_A, None),), ((("r",), list(YES_A), ()),),
    ((("q",), YES_A, ()), (("q",), YES_A, ((),))))


def watch_of(rules, guard):
    """The watch of a guard, ahead of all moves."""
    return Watch(rules, guard, [first_case(rules, guard[0], formulas_of(guard[1]))])


class GuardsTest(Case):

    def test_what_are_guards(self):
        for value in ((), (GUARD,), ((("q", "r", "s"), YES_A, ()),), ((("q",), YES_A, ()), (("r", "s"), YES_A, ((),))),
                      ((("s",), YES_A * 3, ((("blank", "s", "k", "w"), ("nights", "s")), ())), GUARD)):
            self.same(are_guards(THREE, value), True)

    def test_what_are_none(self):
        for value in NO_GUARDS:
            self.same(are_guards(THREE, value), False)
        for value in VALUES:
            if value != ():
                self.same(are_guards(THREE, value), False)
            for at in range(3):
                if at < 2 or value not in ((), ((),)):
                    self.same(are_guards(THREE, (GUARD[:at] + (value,) + GUARD[at + 1:],)), False)


class NamedTest(Case):

    def test_memories_of_other_readers(self):
        one, other = (("a",), (), (0,)), ((), (("k", ("-",)),), (2,))
        case = (((1,), 0), (one, other), ((True,), ()))
        for others, memories in ((("q", "s"), (one, other)), (("q",), (one,)), (("s",), (other,)), ((), ()),
                                 (("q", "r", "s"), (one, NONE, other)), (("r", "t"), (NONE, NONE))):
            self.same(as_named(HOUSE, ("q", "s"), others, [case, case]), [(case[0], memories, case[2])] * 2)
        self.same(as_named(HOUSE, (), ("q",), [(case[0], (), ())]), [(case[0], (NONE,), ())])


class WatchTest(Case):

    def test_the_ways_of_the_plan(self):
        many = 0
        for made in some(200):
            pool, secrets = made.pool(), made.secrets()
            ways = made.ways(pool)
            told, watch = held(made.rules, pool, secrets, ways), watch_of(made.rules, (pool, secrets, ways))
            self.same(watch.is_safe(), told[0] == "held")
            self.same((watch.guard(), watch.named), ((pool, secrets, ways), pool))
            if told[0] == "held":
                plan = dict(told[1])
                plain = naive_ways.Threads(made.rules, pool, secrets, ways)
                self.same(watch.chosen[0], plan[watch.thread_at(0)])
                lore, _, nexts = plain.looks[plain.first][watch.chosen[0]]
                self.assertEqual(set(watch.lore_at(0)), lore)
                self.same(watch.behind(0, tuple([() for _ in pool])), 0)
                for shown, thread in nexts.items():
                    self.same(watch.thread_at(watch.behind(0, shown)), tuple(sorted(thread)))
                    many += 1
        self.assertGreater(many, 80)

    def test_rules_of_the_present_way(self):
        watch = watch_of(NUMBER, (("r",), YES_A, ((),)))
        behind = watch.behind(0, ((("k", ("#0",)),),))
        self.same([watch.rules_at(number).text for number in (0, behind)], [NUMBER.text, "reader r"])

    def test_readers_who_are_not_named(self):
        guard = (("q", "r", "s"), YES_A, ((("nights", "s"),),))
        rules = Rules(HOUSE, "reader p\n  kind k\nreader s\n  nights")
        watch = Watch(rules, guard, [(((0,), 0), (NONE,), ((False,),))])
        self.same((watch.named, watch.pool, watch.is_safe()), (("s",), guard[0], True))
        watch = Watch(Rules(HOUSE, "reader p\n  kind k"), guard[:2] + ((),), [(((0,), 0), (), ((False,),))])
        self.same((watch.named, watch.is_safe(), watch.behind(0, ())), ((), True, 0))
        self.same(len(watch.lore_at(0)), 4)
        # Who is named no more is out of it: what was known stays known.
        watch = Watch(Rules(HOUSE, "reader p\n  kind k"), guard[:2] + ((),), [(((0,), 0), (), ((True,),))])
        self.same(watch.is_safe(), False)

    def test_ways_that_are_left(self):
        ways = ((("blank", "r", "k", "w"),), (("daily", "r"),), (), (("number", "r", "k", "w"),))
        watch = watch_of(Rules(HOUSE, "reader r\n  kind k"), (("r",), YES_A, ways))
        for text, left in (("reader r\n  kind k", ways), ("reader r\n  kind k\n    number w", ways[:3]),
                           ("reader r\n  daily\n  kind k\n    blank w", (ways[2], ways[3])), ("reader r", ways[1:3]),
                           ("reader r\n  kind k\n    counted 1", ways[1:3]), ("reader s\n  kind k", ways[2:3])):
            self.same(watch.ways_left(Rules(HOUSE, text)), left)

    def test_alike_cases_are_one(self):
        case = (((0,), 0), (NONE,), ((False,),))
        self.same(Watch(NUMBER, GUARD, [case, case, case]).thread_at(0), (case,))


class WatchesTest(Case):

    def starts(self, rules, guards):
        return [[first_case(rules, pool, formulas_of(secrets))] for pool, secrets, _ in guards]

    def test_the_first_guard_that_cannot_be_kept(self):
        safe, lost = (("s",), YES_A, ()), (("q",), YES_A, ())
        for guards, number in (((safe, lost), 1), ((lost, safe), 0), ((lost, (("s",), ((BY_A, "whether"),), ())), 0),
                               ((lost,), 0)):
            self.refuses(Telling, number, watches_by, THREE, guards, self.starts(THREE, guards))
        watches = watches_by(THREE, (safe, GUARD), self.starts(THREE, (safe, GUARD)))
        self.same([watch.guard() for watch in watches], [safe, GUARD])
        self.same(watches_by(THREE, (), []), ())

    def test_one_guard_behind_the_other(self):
        rules = Rules(House(BIG), "reader q\n  is a\nreader r\nreader s\n  nights")
        lost = (("q",), ((("now", "c", 1), "yes"),), ())
        big, many = (("r",), ((BIG_NEVER, "no"),), ()), (("s",), ((("now", "c", 1), "yes"),), ())
        for guards, error, number in (((lost, big), Telling, 0), ((big, lost), TooMany, 2000),
                                      ((many, big), TooMany, 2000), ((many, lost), Telling, 1)):
            self.refuses(error, number, watches_by, rules, guards, self.starts(rules, guards))
