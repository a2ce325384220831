import time
from unittest import mock

from givenout import threads as threads_module, trees as trees_module, ways as module
from givenout.cases import first_case
from givenout.changes import with_changes
from givenout.errors import BadPool, BadSecrets, BadWays, TooMany
from givenout.houses import House
from givenout.keeping import kept
from givenout.rules import Rules
from givenout.ways import are_ways, held, rules_by, shows_held, silence_of
from tests import naive_ways
from tests.helpers import BIG, BIG_ASK, BIG_NEVER, SMALL, VALUES, Case
from tests.made import some
from tests.test_keeping import BAD_SECRETS

NIGHT = ("night",)
HOUSE = House(SMALL)
NUMBER = Rules(HOUSE, "reader r\n  kind k\n    number w")
BY_A, BY_B, SOMEBODY = ("done", "x", "a", None), ("done", "x", "b", None), ("done", "x", None, None)
R = ("r",)
YES_A = ((BY_A, "yes"),)
BLANK, NIGHTLY, DAILY, HIDE = ("blank", "r", "k", "w"), ("nightly", "r", "k"), ("daily", "r"), ("hide", "r", "k")

# What happens by turns: at first x, behind z, which the reader does and so sees by each way, y.
TURNS = """people a b
cell c 2 0
kind k
kind l
deed x
  by b
  if c = 0
  row k
deed y
  by b
  if c = 1
  row l
deed z
  by a
  if c = 0
  set c 1
day 1"""
TURNED = Rules(House(TURNS), "reader r\n  is a\n  nights\n  kind k\n  kind l")
TURN_SECRETS = ((("or", ("now", "c", 1), ("often", "x", 2)), "no"), (("or", ("now", "c", 0), ("often", "y", 2)), "no"))
NO_K, NO_L = (("hide", "r", "k"), ("nights", "r")), (("hide", "r", "l"), ("nights", "r"))

# The reader does all that is done: at the fourth deed it is out.
STEPS = """people a
cell c 4 0
cell d 4 0
kind k
  worth v 4
deed x
  if c != 3
  add c 1
  row k c
deed y
  if c = 3
  add d 1
  row k d
day 3"""
STEPPED = Rules(House(STEPS), "reader r\n  is a\n  kind k")
FOUR = ((), (("blank", "r", "k", "v"),), (("coarse", "r", "k", "v", 2),), (("coarse", "r", "k", "v", 3),))


class HeldTest(Case):

    def held(self, rules, pool, secrets, ways, numbers=None):
        """The secrets are held, by ways of these numbers."""
        word, plan = told = held(rules, pool, secrets, ways)
        self.same(word, "held")
        self.same(plan, tuple(sorted(plan)))
        if numbers is not None:
            self.same(sorted(set([way for _, way in plan])), numbers)
        self.same(shows_held(rules, pool, secrets, ways, told), True)
        self.same(told, naive_ways.held(rules, pool, secrets, ways))
        return plan

    def lost(self, rules, pool, secrets, ways, parts):
        """The secrets cannot be held, and the least tree has so many parts."""
        word, tree = told = held(rules, pool, secrets, ways)
        self.same((word, len(tree), naive_ways.parts_of(tree)), ("lost", len(ways) + 1, parts))
        self.same(shows_held(rules, pool, secrets, ways, told), True)
        self.same(naive_ways.held(rules, pool, secrets, ways), ("lost", parts))
        return tree

    def test_the_example(self):
        one, other = held(NUMBER, R, YES_A, ((BLANK,),)), held(NUMBER, R, YES_A, ((),))
        self.same([one[0], [way for _, way in one[1]], other[0], [(len(thread), way) for thread, way in other[1]]],
                  ["held", [0, 0], "held", [(1, 0), (2, 1)]])
        self.held(NUMBER, R, YES_A, ((BLANK,),), [0])
        self.held(NUMBER, R, YES_A, ((),), [0, 1])

    def test_by_hand(self):
        first = first_case(NUMBER, R, (BY_A,))
        done = tuple([(((0,), 1), (((who,), (), (0,)),), ((who == "a",),)) for who in "ab"])
        self.same(self.held(NUMBER, R, YES_A, ((),)), (((first,), 0), (done, 1)))
        self.same(self.held(NUMBER, R, YES_A, ()), (((first,), 0),))
        self.same(self.held(NUMBER, R, ((BY_A, "no"),), ((),)), (((first,), 1),))

    def test_no_ways_and_the_rules_as_they_are(self):
        self.held(NUMBER, R, YES_A, (), [0])
        self.held(NUMBER, R, ((BY_A, "whether"),), (), [0])
        self.held(NUMBER, R, ((BY_B, "yes"), (BY_A, "yes")), ((),), [0, 1])
        self.held(Rules(HOUSE, "reader r"), R, YES_A, ((),), [0])

    def test_the_first_good_way(self):
        for ways, numbers in ((((BLANK,), ()), [0]), (((), (BLANK,)), [0, 1]), (((DAILY,), (), (BLANK,)), [0]),
                              (((NIGHTLY,),), [0, 1]), (((), (DAILY,), (BLANK,), (HIDE,)), [0, 1]),
                              (((), (BLANK,), (DAILY,), (HIDE,)), [0, 1]), (((HIDE,), (BLANK,)), [0]),
                              (((), (NIGHTLY,)), [0, 2]), (((BLANK, NIGHTLY), (BLANK,)), [0])):
            self.held(NUMBER, R, YES_A, ways, numbers)
        self.held(Rules(HOUSE, "reader r\n  kind k"), R, ((BY_A, "yes"), (SOMEBODY, "no")), ((), (BLANK,)), [2])

    def test_several_ways_of_which_none_holds_alone(self):
        for ways in ((), ((),), (NO_K,), (NO_L,), ((), NO_K), ((), NO_L)):
            self.same(held(TURNED, R, TURN_SECRETS, ways)[0], "lost")
            self.same(shows_held(TURNED, R, TURN_SECRETS, ways, held(TURNED, R, TURN_SECRETS, ways)), True)
        self.held(TURNED, R, TURN_SECRETS, (NO_K, NO_L), [0, 1])
        self.held(TURNED, R, TURN_SECRETS, (NO_L, NO_K), [0, 1])
        plan = self.held(TURNED, R, TURN_SECRETS, ((), NO_L, NO_K), [1, 2])
        self.same([way for _, way in plan], [2, 1])
        # By turns, at once: three of the four ways are not needed.
        self.held(TURNED, R, TURN_SECRETS, ((), NO_K[1:], NO_L, NO_K), [2, 3])

    def test_what_is_out_at_first_by_all_ways(self):
        always, never = ("or", BY_A, ("not", BY_A)), ("and", BY_A, ("not", BY_A))
        for ways in ((), ((),), ((), (BLANK,), (HIDE,), (DAILY,))):
            for secret, number in ((((always, "yes"),), 0), (YES_A + ((never, "no"),), 1),
                                   (YES_A + ((always, "whether"), (never, "no")), 1)):
                tree = self.lost(NUMBER, R, secret, ways, len(ways) + 1)
                self.same(tree, (("out", number),) * (len(ways) + 1))

    def test_secrets_that_cannot_be_held(self):
        # What a does, a sees by each way.
        rules = Rules(HOUSE, "reader r\n  is a\n  kind k\n    blank w")
        end = (("out", 0), ("out", 0))
        did = (((("did", "x", 0),),), ((("did", "x", 0), ("k", ("-",))),))
        tree = self.lost(rules, R, YES_A, ((),), 6)
        self.same(tree, (("shows", did[1], end), ("shows", did[0], end)))
        self.same(self.lost(rules, R, YES_A, (), 2), (("shows", did[0], (("out", 0),)),))
        self.held(rules, R, ((BY_B, "yes"),), ((),), [1])
        self.lost(rules, R, ((BY_B, "yes"), (BY_A, "whether")), ((),), 2)

    def test_what_silence_still_gives(self):
        nights = Rules(HOUSE, "reader r\n  is b\n  nights\n  kind k")
        today = ("today", "x", None, None)
        # The night is told, and what b does.
        self.lost(nights, R, ((("often", "x", 2), "no"),), ((),), 2)
        plan = self.held(nights, R, ((("often", "x", 2), "no"),), ((), (("hide", "r", "k"), ("nights", "r"))), [0, 1])
        self.same([way for thread, way in plan if len(thread) == 1 and thread[0][2] == ((0,),)], [1])
        self.held(Rules(HOUSE, "reader r\n  is a"), R, ((("often", "x", 2), "no"),), (), [0])
        self.lost(nights, R, ((BY_B, "yes"),), (), 2)
        self.held(nights, R, ((BY_A, "yes"), (today, "no")), ((),), [0, 1])

    def test_pools_of_two_among_three(self):
        rules = Rules(HOUSE, "reader q\n  is a\n  kind k\nreader r\n  kind k\n    blank w\nreader s\n  kind k")
        secrets = ((BY_B, "yes"),)
        self.same(silence_of(rules, ("q", "s")), (("hide", "q", "k"), ("hide", "s", "k")))
        self.held(rules, ("r",), secrets, ((),), [0])
        self.held(rules, ("q",), secrets, ((),), [1])
        self.held(rules, ("q", "r"), secrets, ((), (("blank", "q", "k", "w"),), (("hide", "r", "k"),)), [3])
        self.held(rules, ("q", "s"), secrets, ((("hide", "q", "k"), ("hide", "s", "k")), ()), [0])
        self.lost(rules, ("q", "r"), ((BY_A, "yes"),), ((), (("hide", "q", "k"),)), 12)

    def test_plans_and_least_trees(self):
        seen = {"held": 0, "lost": 0}
        for made in some(250):
            pool, secrets = made.pool(), made.secrets()
            ways = made.ways(pool)
            told = naive_ways.held(made.rules, pool, secrets, ways)
            seen[told[0]] += 1
            if told[0] == "held":
                self.held(made.rules, pool, secrets, ways)
            else:
                self.lost(made.rules, pool, secrets, ways, told[1])
        self.assertGreater(min(seen.values()), 60)

    def test_what_is_kept_is_held(self):
        many = 0
        for made in some(120):
            pool, secrets, ways = made.pool(), made.secrets(), made.ways(made.pool())
            if kept(made.rules, pool, secrets)[0] == "kept":
                self.held(made.rules, pool, secrets, ((),), [0])
                ways = tuple([way for way in made.ways(pool) if way != ()][:3])
                self.held(made.rules, pool, secrets, ((),) + ways, [0])
                self.held(made.rules, pool, secrets, ways + ((),))
                many += 1
        self.assertGreater(many, 30)

    def test_errors(self):
        good = ((), (BLANK,))
        bad = ([()], [], (None,), ((), ()), ((BLANK,), (), (BLANK,)), ([],), ([BLANK],), (BLANK,), ((BLANK, BLANK),),
               ((DAILY, BLANK),), ((HIDE, NIGHTLY),), ((("blank", "q", "k", "w"),),), ((("hide", "r", "l"),),),
               ((("number", "r", "k", "w"),),), ((("nights", "r"),),), ((["daily", "r"],),), "daily", ((), None),
               (("daily",),), ((("counted", "r", "k", True),),), ((), (BLANK,), (HIDE,), (DAILY,), (NIGHTLY,)), {(): 1})
        for function, more in ((held, ()), (shows_held, (None,))):
            for value in VALUES:
                self.refuses(BadPool, value, function, NUMBER, value, None, None, *more)
            for value in VALUES + BAD_SECRETS:
                self.refuses(BadSecrets, value, function, NUMBER, R, value, None, *more)
            for value in VALUES + bad:
                # One way, that changes nothing.
                if value != () and value != ((),):
                    self.refuses(BadWays, value, function, NUMBER, R, YES_A, value, *more)
            function(NUMBER, R, YES_A, good, *more)
        rules = Rules(HOUSE, "reader q\n  kind k\nreader r\n  kind k")
        other = (((("hide", "q", "k")),),)
        self.refuses(BadWays, other, held, rules, R, YES_A, other)
        self.refuses(BadWays, other, shows_held, rules, R, YES_A, other, None)
        self.same(held(rules, ("q", "r"), YES_A, other)[0], "held")

    def test_by_the_names_of_the_document(self):
        self.same(self.takes_names(held, NUMBER, R, YES_A, ((), (BLANK,))), ["rules", "pool", "secrets", "ways"])
        self.same(self.takes_names(held, STEPPED, R, ((("now", "c", 1), "yes"),), ()),
                  ["rules", "pool", "secrets", "ways"])
        self.same(self.takes_names(shows_held, NUMBER, R, YES_A, (), None),
                  ["rules", "pool", "secrets", "ways", "value"])


class WaysTest(Case):

    def test_silence(self):
        for made in some(60):
            pool = made.pool()
            self.same(rules_by(made.rules, pool, ())[0].text, naive_ways.silent(made.rules, pool).text)
        self.same(silence_of(TURNED, R), (("hide", "r", "k"), ("hide", "r", "l")))
        self.same(rules_by(TURNED, R, ())[0].text, "reader r\n  is a\n  nights")

    def test_silence_where_kinds_stand_in_another_sequence(self):
        house = House(SMALL.replace("kind k\n  who w\n", "kind m\n  who w\nkind k\n  who w\nkind b\n"))
        rules = Rules(house, "reader q\n  kind m\n  kind k\n  kind b\nreader r\n  kind k\n  kind b")
        self.same(silence_of(rules, ("q", "r")), (("hide", "q", "b"), ("hide", "q", "k"), ("hide", "q", "m"),
                                                  ("hide", "r", "b"), ("hide", "r", "k")))
        self.same(rules_by(rules, ("q", "r"), ())[0].text, "reader q\nreader r")
        self.same(held(rules, ("q", "r"), YES_A, ())[0], "held")

    def test_rules_by_ways(self):
        texts = [rules.text for rules in rules_by(TURNED, R, (NO_K, (), NO_L))]
        self.same(texts, [with_changes(TURNED, NO_K).text, TURNED.text, with_changes(TURNED, NO_L).text,
                          "reader r\n  is a\n  nights"])

    def test_ways_by_their_form(self):
        self.same([are_ways(NUMBER, R, value) for value in (
            (), ((),), ((), (BLANK,)), ((), ()), [()], ((BLANK, DAILY),), ((DAILY, BLANK),))],
                  [True, True, True, False, False, True, False])


class ShowsPlanTest(Case):

    WAYS = ((), (BLANK,))

    def shown(self, told, plan, ways=WAYS, secrets=YES_A, rules=NUMBER):
        self.same(shows_held(rules, R, secrets, ways, ("held", plan)), told)

    def setUp(self):
        self.plan = held(NUMBER, R, YES_A, self.WAYS)[1]

    def plan_by(self, choose):
        """All threads that come of the first one by the ways that are chosen, with these."""
        threads = naive_ways.Threads(NUMBER, R, YES_A, self.WAYS)
        plan, ahead = {}, [threads.first]
        while ahead:
            thread = ahead.pop()
            if thread not in plan:
                plan[thread] = choose(thread)
                ahead += list(threads.looks[thread][plan[thread]][2].values())
        return tuple(sorted([(tuple(sorted(thread)), way) for thread, way in plan.items()]))

    def test_other_good_ways(self):
        for choose, told in ((lambda thread: 2, True), (lambda thread: 1, True), (lambda thread: 0, False),
                             (lambda thread: len(thread) % 3, True), (lambda thread: 1 + len(thread) % 2, True),
                             (lambda thread: 0 if len(thread) == 1 else 1, True),
                             (lambda thread: 0 if len(thread) == 1 else 2, True),
                             (lambda thread: 1 if len(thread) == 1 else 0, False)):
            self.shown(told, self.plan_by(choose))

    def test_any_ways_of_made_houses(self):
        seen = {True: 0, False: 0}
        for made in some(200):
            pool, secrets = made.pool(), made.secrets()
            ways = made.ways(pool)
            threads = naive_ways.Threads(made.rules, pool, secrets, ways)
            plan, ahead = {}, [threads.first]
            while ahead:
                thread = ahead.pop()
                if thread not in plan:
                    good = [way for way, look in enumerate(threads.looks[thread]) if not look[1]]
                    plan[thread] = made.one(*(good or [0])) if made.is_so(90) else made.chance.randrange(len(ways) + 1)
                    ahead += sorted(threads.looks[thread][plan[thread]][2].values(), key=sorted)
            told = not any([threads.looks[thread][way][1] for thread, way in plan.items()])
            rows = tuple(sorted([(tuple(sorted(thread)), way) for thread, way in plan.items()]))
            self.same(shows_held(made.rules, pool, secrets, ways, ("held", rows)), told)
            seen[told] += 1
            for at in range(len(rows)):
                # Each of them comes of the first one.
                left = ("held", rows[:at] + rows[at + 1:])
                come = [behind for thread, way in plan.items() if tuple(sorted(thread)) != rows[at][0]
                        for behind in threads.looks[thread][way][2].values()] + [threads.first]
                if frozenset(rows[at][0]) in come:
                    self.same(shows_held(made.rules, pool, secrets, ways, left), False)
        self.assertGreater(min(seen.values()), 40)

    def test_threads_and_numbers_otherwise(self):
        plan = self.plan
        self.assertGreater(len(plan), 2)
        self.shown(True, plan)
        for at, (thread, way) in enumerate(plan):
            ahead, behind = plan[:at], plan[at + 1:]
            self.shown(False, ahead + behind)
            self.shown(False, ahead + ((thread, way),) * 2 + behind)
            for bad in (-1, 3, True, None, "0", (0,), [0]):
                self.shown(False, ahead + ((thread, bad),) + behind)
            for bad in ((thread,), (thread, way, way), [thread, way], (list(thread), way), (thread + thread[:1], way),
                        ((), way), (thread[0], way), (None, way)):
                self.shown(False, ahead + (bad,) + behind)
            if len(thread) > 1:
                self.shown(False, ahead + ((thread[::-1], way),) + behind)
                self.shown(False, tuple(sorted(ahead + ((thread[1:], way),) + behind)))
                # Twice, with two numbers.
                self.shown(False, tuple(sorted(plan + ((thread, 2),))))
        for bad in (plan[::-1], list(plan), (), None, plan[:1], plan[0], dict(plan)):
            self.shown(False, bad)

    def test_more_threads(self):
        first = first_case(NUMBER, R, (BY_A,))
        # What never comes, by silence: no more comes of it.
        more = tuple(sorted([(((1,), 0),) + first[1:2] + (((done,),)) for done in ((True,), (False,))]))
        self.shown(True, tuple(sorted(self.plan + ((more, 2),))))
        # As it is, x is told of, and what comes behind it is not there.
        self.shown(False, tuple(sorted(self.plan + ((more, 0),))))
        self.shown(False, tuple(sorted(self.plan + ((more, 1),))))
        # Of it the secret is out.
        self.shown(False, tuple(sorted(self.plan + ((more[1:], 2),))))
        self.shown(False, ((more, 2),))

    def test_of_other_ways_rules_and_secrets(self):
        # With other ways it can be a plan, too, if all that comes is there.
        for ways, told in ((self.WAYS, True), (((),), True), ((), False), (((BLANK,), ()), False),
                           (((), (BLANK,), (HIDE,)), True), (((), (HIDE,)), True), (((), (NIGHTLY,)), False)):
            self.shown(told, self.plan, ways)
        self.shown(False, self.plan, secrets=((BY_B, "no"),))
        self.shown(True, self.plan, secrets=((BY_A, "yes"),))
        self.shown(False, self.plan, rules=Rules(HOUSE, "reader r\n  nights\n  kind k\n    number w"))

    def test_values_of_every_kind(self):
        (thread, way), rest = self.plan[0], self.plan[1:]
        for value in VALUES:
            self.same(shows_held(NUMBER, R, YES_A, self.WAYS, value), False)
            self.same(shows_held(NUMBER, R, YES_A, self.WAYS, (value, self.plan)), False)
            self.shown(False, value)
            self.shown(False, (value,) + rest)
            self.shown(False, ((value, way),) + rest)
            self.shown(False, (((value,), way),) + rest)
            self.shown(False, ((thread + (value,), way),) + rest)
            if repr(value) not in ("0", "1", "2"):
                self.shown(False, ((thread, value),) + rest)
        for value in (("held",), ("held", self.plan, ()), ["held", self.plan], ("lost", self.plan)):
            self.same(shows_held(NUMBER, R, YES_A, self.WAYS, value), False)


class ShowsTreeTest(Case):

    SECRETS = ((BY_B, "yes"), (BY_A, "yes"))
    RULES = Rules(HOUSE, "reader r\n  is a\n  kind k")

    def shown(self, told, tree, ways=((),), secrets=SECRETS):
        self.same(shows_held(self.RULES, R, secrets, ways, ("lost", tree)), told)

    def setUp(self):
        self.did = ((("did", "x", 0),),)
        self.full = ((("did", "x", 0), ("k", ("a",))),)
        self.by_b = ((("k", ("b",)),),)

    def test_all_reasons_and_all_that_can_be_shown(self):
        a, b = (("out", 1), ("out", 1)), (("out", 0), ("out", 0))
        for tree, told in (
                ((("shows", self.full, a), ("shows", self.did, a)), True),
                # Behind a row by b b is known by all that is given; silence is left, by which it is, too.
                ((("shows", self.by_b, b), ("shows", self.did, a)), True),
                ((("shows", self.did, a), ("shows", self.did, a)), False),
                ((("shows", self.full, a), ("shows", self.full, a)), False),
                ((("shows", self.full, b), ("shows", self.did, a)), False),
                ((("shows", self.full, a), ("shows", self.did, b)), False),
                ((("out", 0), ("shows", self.did, a)), False), ((("out", 1), ("shows", self.did, a)), False),
                ((("shows", self.full, a), ("out", 0)), False), ((("shows", self.full, a),), False),
                ((("shows", self.full, a),) * 3, False), ((("shows", self.full, a), ("shows", self.did, a[:1])), False),
                ((("shows", self.full, ()), ("shows", self.did, a)), False),
                # A tree may be longer than it must be.
                ((("shows", self.full, (("shows", self.full, a), ("out", 1))), ("shows", self.did, a)), True)):
            self.shown(told, tree)

    def test_trees_that_are_longer(self):
        # At the second day a can do it once more: so seen, it is out all the same.
        rules = Rules(House(SMALL.replace("day 1", "day 2")), self.RULES.text)
        end = (("out", 1), ("out", 1))
        longer = (("shows", self.full, end), ("out", 1))
        last = (("out", 1), ("shows", self.did, end))
        for tree in ((("shows", self.full, end), ("shows", self.did, end)),
                     (("shows", self.full, longer), ("shows", self.did, end)),
                     (("shows", self.full, last), ("shows", self.did, longer)),
                     (("shows", self.by_b, (("shows", self.full, end), ("shows", self.did, last))),
                      ("shows", self.did, end))):
            self.same(shows_held(rules, R, self.SECRETS, ((),), ("lost", tree)), True)

    def test_branches_spoilt(self):
        told = held(self.RULES, R, self.SECRETS, ((),))
        self.same(told[0], "lost")
        one, other = told[1]
        for bad in (("out",), ("out", 0, 0), ["out", 0], ("Out", 1), ("shows", one[1]), one[:2], one + (0,), list(one),
                    ("show",) + one[1:], ("shows", list(one[1]), one[2]), ("shows", (), one[2]),
                    ("shows", ((),), one[2]), ("shows", one[1], list(one[2])), ("shows", one[1], one[2][:1]),
                    ("shows", one[1], one[2] + one[2][:1]), ("shows", one[1], None), ("shows", None, one[2]),
                    ("shows", ((("did", "x", False),),), other[2]), ("shows", ((NIGHT,),), one[2]),
                    ("shows", one[1] + ((),), one[2]), ("out", True), ("out", 2), ("out", -1), ("out", None)):
            self.shown(False, (bad, other))
            self.shown(False, (one, bad))
            self.shown(False, ((one[0], one[1], (bad, one[2][1])), other))
        for tree in (told[1][::-1], list(told[1]), told[1][:1], told[1] * 2, ()):
            self.shown(False, tree)
        for value in (("held", told[1]), ("out", told[1]), (None, told[1]), ("lost",), told + (0,), list(told)):
            self.same(shows_held(self.RULES, R, self.SECRETS, ((),), value), False)

    def test_of_other_ways_and_secrets(self):
        tree = held(self.RULES, R, self.SECRETS, ((),))[1]
        blank = ((BLANK,),)
        self.shown(True, tree)
        self.shown(False, tree, blank)
        self.shown(False, tree, ())
        self.shown(False, tree, ((), (BLANK,)))
        self.shown(True, held(self.RULES, R, self.SECRETS, blank)[1], blank)
        self.shown(False, tree, secrets=self.SECRETS[::-1])
        self.shown(False, tree, secrets=YES_A)

    def test_values_of_every_kind(self):
        one, other = held(self.RULES, R, self.SECRETS, ((),))[1]
        for value in VALUES:
            self.shown(False, value)
            self.shown(False, (value, other))
            self.shown(False, (one, value))
            for bad in ((value,) + one[1:], ("shows", value, one[2]), ("shows", one[1], value), ("out", value),
                        ("shows", (value,), one[2]), ("shows", ((value,),), one[2]),
                        ("shows", ((value,) + one[1][0],), one[2]), ("shows", one[1], (value, one[2][1]))):
                self.shown(False, (bad, other))


class TooManyTest(Case):

    ALL = "\n".join(["reader r", "  nights", "  kind k"])
    # All is told of, so that each thread has one case.
    TOLD = Rules(House(BIG.replace("deed x", "kind k\n  worth v 4\n  worth u 4\ndeed x").replace(
        "set c it", "set c it\n  row k 0 it").replace("set d it", "set d it\n  row k 1 it").replace(
        "set e it", "set e it\n  row k 2 it")), ALL)
    NOTHING = Rules(House(BIG), "reader r")

    def test_more_threads_than_are_looked_at(self):
        ask = ("and", ("often", "x", 3), ("and", ("often", "y", 3), ("often", "z", 3)))
        self.refuses(TooMany, 2000, held, self.TOLD, R, ((ask, "yes"),), ((),))
        # Whether a secret is out or not: this one is at once.
        self.refuses(TooMany, 2000, held, self.TOLD, R, ((ask, "no"),), ((),))
        # By other ways they are fewer; but those by the first one count.
        self.refuses(TooMany, 2000, held, self.TOLD, R, ((ask, "yes"),), ((("hide", "r", "k"),), ()))
        self.same(held(self.TOLD, R, ((("now", "c", 1), "yes"),), ((), (("hide", "r", "k"),)))[0], "held")

    def test_lores_with_more_cases_than_are_looked_at(self):
        for formula in (BIG_NEVER, BIG_ASK):
            for ways in ((), ((),)):
                self.refuses(TooMany, 2000, held, self.NOTHING, R, ((formula, "whether"),), ways)
        self.same(held(self.NOTHING, R, ((("now", "c", 1), "whether"),), ())[0], "held")

    def test_trees_with_more_parts(self):
        # Behind as many deeds, each of which all five ways show.
        for cell, worth, parts in (("c", 1, 30), ("c", 2, 155), ("c", 3, 780), ("d", 1, 0), ("d", 2, 0)):
            secrets = ((("now", cell, worth), "yes"),)
            if parts == 0:
                self.refuses(TooMany, 2000, held, STEPPED, R, secrets, FOUR)
            else:
                told = held(STEPPED, R, secrets, FOUR)
                self.same((told[0], naive_ways.parts_of(told[1])), ("lost", parts))
                self.same(shows_held(STEPPED, R, secrets, FOUR, told), True)
        for cell, worth in (("c", 3), ("d", 1), ("d", 2), ("d", 3)):
            # Two ways, each of the trees is small enough.
            told = held(STEPPED, R, ((("now", cell, worth), "yes"),), ((),))
            self.same(told[0], "lost")
            self.same(shows_held(STEPPED, R, ((("now", cell, worth), "yes"),), ((),), told), True)

    def test_the_limit_itself_of_parts(self):
        secrets = ((("now", "c", 3), "yes"),)
        for limit in (779, 780):
            with mock.patch.object(module, "LIMIT", limit), mock.patch.object(trees_module, "LIMIT", limit):
                if limit == 779:
                    self.refuses(TooMany, 779, held, STEPPED, R, secrets, FOUR)
                else:
                    self.same(held(STEPPED, R, secrets, FOUR)[0], "lost")

    def test_the_limit_itself_of_threads_and_cases(self):
        for secrets, ways in ((YES_A, ((),)), (YES_A, ((BLANK,), ())), (((BY_A, "no"),), ((),))):
            threads = naive_ways.Threads(NUMBER, R, secrets, ways)
            most = max([len(look[0]) for looks in threads.looks.values() for look in looks] + [len(threads.looks)])
            for limit in (most - 1, most):
                with mock.patch.object(threads_module, "LIMIT", limit):
                    if limit < most:
                        self.refuses(TooMany, limit, held, NUMBER, R, secrets, ways)
                    else:
                        held(NUMBER, R, secrets, ways)

    def test_two_thousand(self):
        # Each reader of the house sees what is done: so many threads as there are stands and notes.
        began = time.process_time()
        self.refuses(TooMany, 2000, held, self.TOLD, R, ((("or", ("often", "x", 3), ("often", "y", 2)), "yes"),), ((),))
        self.assertLess(time.process_time() - began, 60)

    def test_behind_all_other_errors(self):
        secrets = ((BIG_NEVER, "yes"), (BIG_NEVER, "never"))
        self.refuses(BadSecrets, secrets, held, self.NOTHING, R, secrets, ())
        self.refuses(BadPool, "r", held, self.NOTHING, "r", secrets, ())
        self.refuses(BadWays, None, held, self.NOTHING, R, secrets[:1], None)
        self.refuses(BadWays, None, shows_held, self.NOTHING, R, secrets[:1], None, None)
