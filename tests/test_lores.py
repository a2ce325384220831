from unittest import mock

from givenout import lores as module
from givenout.errors import TooMany
from givenout.giving import view
from givenout.houses import House
from givenout.lores import LIMIT, Lores, answers_in, first_out, is_out
from givenout.rules import Rules
from givenout.walks import HIDDEN, UNSEEN, Walks
from tests.helpers import BIG, BIG_ASK, BIG_NEVER, SMALL, Case
from tests.made import some
from tests.naive import Naive

BIG_RULES = Rules(House(BIG), "reader r")


def big(ask, words, limit):
    """The lores of the big house, in which all is unseen."""
    return Lores(Walks(BIG_RULES, ("r",), (ask,)), words, limit)


class OutTest(Case):

    def test_what_is_out(self):
        for word, outs in (("yes", [(True,)]), ("no", [(False,)]), ("whether", [(False,), (True,)])):
            for given in ((False,), (True,), (False, True)):
                self.same(is_out(word, given), given in outs)

    def test_the_first_secret_that_is_out(self):
        rules = Rules(House(SMALL), "reader r\n  kind k")
        walks = Walks(rules, ("r",), (("now", "c", 0), ("done", "x", "a", None)))
        both = [number for _, _, number in walks.steps_of(0)]
        for words, numbers, first in (
                (("yes", "no"), [0], 0), (("no", "no"), [0], 1), (("no", "yes"), [0], -1), ((), [0], -1),
                (("no", "whether"), both, -1), (("no", "whether"), both[:1], 1), (("no", "no"), both[:1], -1)):
            self.same(first_out(walks, words, numbers), first)
        self.same(answers_in(walks, 1, both), [False, True])
        self.same(answers_in(walks, 0, both), [True])


class LoresTest(Case):

    def test_lores_are_those_of_the_view(self):
        for made in some(60):
            pool, ask = made.pool(), made.ask()
            told = view(made.rules, pool, made.run(6))
            naive = Naive(made.rules, pool, (ask,))
            walks = Walks(made.rules, pool, (ask,))
            for words, limit in (((), None), ((), LIMIT)):
                lores = Lores(walks, words, limit)
                numbers = lores.led(0, walks.parts_of(told))
                self.same([walks.told(lores.rows[number]) for number in numbers],
                          [tuple(sorted(lore)) for lore in naive.lores(told)])
                self.same(lores.behind(numbers[-1], UNSEEN), numbers[-1])
                self.same(lores.answers_at(numbers[-1]), naive.answers(naive.lores(told)[-1]))
                lores.need_few()

    def test_what_is_hidden(self):
        for made in some(40):
            naive = Naive(made.rules, made.rules.readers, ())
            walks = Walks(made.rules, made.rules.readers, ())
            lores = Lores(walks, (), None)
            self.same(walks.told(lores.rows[lores.behind(0, HIDDEN)]),
                      tuple(sorted(naive.behind(naive.lores(())[0], None))))

    def test_no_limit(self):
        lores = big(BIG_NEVER, (), None)
        self.assertGreater(len(lores.rows[0]), LIMIT)
        lores.need_few()

    def test_what_is_over_the_limit(self):
        for words in ((), ("yes",)):
            self.refuses(TooMany, 2000, big(BIG_NEVER, words, LIMIT).need_few)
        # It is cut off as soon as this is plain.
        self.assertIn(len(big(BIG_NEVER, ("yes",), LIMIT).rows[0]), range(LIMIT + 1, LIMIT + 50))
        # That the formula does not hold is out, so nothing is left off.
        self.same(big(BIG_NEVER, ("no",), LIMIT).rows, big(BIG_NEVER, (), None).rows)
        self.same(len(big(BIG_ASK, (), None).rows[0]), 2112)
        self.refuses(TooMany, 2000, big(BIG_ASK, (), LIMIT).need_few)

    def test_the_limit_itself(self):
        for most in (2111, 2112):
            with mock.patch.object(module, "LIMIT", most):
                lores = big(BIG_ASK, (), most)
                self.same(lores.is_over, most == 2111)

    def test_in_haste_what_is_out_is_still_found(self):
        rules = Rules(House(SMALL), "reader r\n  nights\n  kind k\n    number w")
        formula = ("done", "x", None, None)
        for word in ("yes", "no", "whether"):
            walks = Walks(rules, ("r",), (formula,))
            calm, hasty = Lores(walks, (word,), None), Lores(walks, (word,), None)
            hasty.make_haste()
            for part in range(1, 4):
                walks.steps_of(0)
                one, other = calm.rows[calm.behind(0, part)], hasty.rows[hasty.behind(0, part)]
                self.same(first_out(walks, (word,), one), first_out(walks, (word,), other))
                if first_out(walks, (word,), one) == 0:
                    self.same(one, other)
