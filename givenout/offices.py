"""Offices, which give out live."""

from givenout.asks import is_ask
from givenout.errors import BadAsk, BadGuards, BadNumber, BadRules, NothingToRedo, NothingToUndo, NoTrial
from givenout.forms import is_from
from givenout.hindsight import known_answers
from givenout.records import head_of, move_lines, rules_lines
from givenout.rules import Rules
from givenout.states import Step, first_state, led_on, with_rules
from givenout.trials import Trial
from givenout.watches import are_guards


class Office:
    """An office: it runs a house move by move, and gives out by rules and by the ways of its guards.

    state: the State now; past: the steps that led to it; future: those that were taken back, the last one first;
    innermost: the trial that goes on, None outside of all.
    """

    def __init__(self, rules, *, guards=()):
        if not are_guards(rules, guards):
            raise BadGuards(guards)
        state = first_state(rules, guards)
        self.state = state
        self.rules = rules
        self.guards = guards
        self.run = ()
        self.stand = state.stand
        self.memories = state.memories
        self.threads = state.threads
        self.ways = state.ways
        self.out = ()
        self.journal = head_of(rules, guards)
        self.past = ()
        self.future = ()
        self.innermost = None

    def __eq__(self, other):
        return isinstance(other, Office) and self.journal == other.journal

    def __iter__(self):
        return iter(self.run)

    def take(self, state):
        """Goes over to a state."""
        self.state = state
        self.rules = state.rules
        self.guards = state.guards
        self.stand = state.stand
        self.memories = state.memories
        self.threads = state.threads
        self.ways = state.ways

    def follow(self, step, future):
        """Goes on by a step; future: what can be done again behind it."""
        self.take(step.end)
        self.run = self.run + step.moves
        self.out = self.out + (step.entry,)
        self.journal = self.journal + step.lines
        self.past = self.past + (step,)
        self.future = future

    def do(self, move):
        """Does a move; for each reader of the rules the reader, and the items that the move gives."""
        entry, behind = led_on(self.state, move)
        self.follow(Step(self.state, behind, (move,), entry, move_lines(move)), ())
        return entry

    def may_give(self, move):
        """What do would return."""
        return led_on(self.state, move)[0]

    def change(self, rules):
        """Goes on by these rules."""
        if not isinstance(rules, Rules) or rules.house != self.rules.house:
            raise BadRules(rules)
        behind = with_rules(self.state, rules)
        self.follow(Step(self.state, behind, (), ("rules", rules.text), rules_lines(rules)), ())

    def known(self, number, ask):
        """The ascending tuple of the answers that are possible for the guard of this number."""
        if not is_from(number, 0, len(self.guards)):
            raise BadNumber(number)
        if not is_ask(self.rules.house, ask):
            raise BadAsk(ask)
        return known_answers(self.past, self.state, number, ask)

    def undo(self):
        """Takes back the last move or change."""
        if self.past == ():
            raise NothingToUndo()
        step = self.past[-1]
        self.take(step.start)
        self.run = self.run[:len(self.run) - len(step.moves)]
        self.out = self.out[:-1]
        self.journal = self.journal[:len(self.journal) - len(step.lines)]
        self.past = self.past[:-1]
        self.future = (step,) + self.future

    def redo(self):
        """Does the last one that was taken back again."""
        if self.future == ():
            raise NothingToRedo()
        self.follow(self.future[0], self.future[1:])

    def trial(self):
        """A trial of this office, to be gone through by a with statement."""
        return Trial(self)

    def keep(self):
        """Keeps the trial that goes on."""
        trial = self.innermost
        if trial is None:
            raise NoTrial()
        trial.kept = True

    def tried(self, look, *, keep=False):
        """What look returns for the office, in a trial that is kept if keep is True."""
        with self.trial() as held:
            found = look(held)
            if keep is True:
                held.keep()
        return found

    def copy(self):
        """An office with all that this one has, which goes on by itself, in no trial."""
        other = Office(self.rules)
        other.take(self.state)
        other.run = self.run
        other.out = self.out
        other.journal = self.journal
        other.past = self.past
        other.future = self.future
        return other
