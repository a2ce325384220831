from givenout.trials import Trial
from tests.helpers import Case

NAMES = ("state", "rules", "guards", "run", "stand", "memories", "threads", "ways", "out", "journal", "past", "future")


class Plain:
    """What has all that a trial takes down."""

    def __init__(self):
        self.innermost = None
        self.put(0)

    def put(self, worth):
        for name in NAMES:
            setattr(self, name, (name, worth))

    def told(self):
        return [getattr(self, name)[1] for name in NAMES]


class TrialTest(Case):

    def setUp(self):
        self.office = Plain()

    def all_are(self, worth):
        self.same(self.office.told(), [worth] * len(NAMES))

    def test_all_is_as_it_was(self):
        trial = Trial(self.office)
        self.office.put(1)
        with trial as held:
            self.assertIs(held, self.office)
            self.assertIs(self.office.innermost, trial)
            self.office.put(2)
        self.all_are(1)
        self.assertIsNone(self.office.innermost)

    def test_what_is_kept(self):
        trial = Trial(self.office)
        with trial:
            self.office.put(2)
            trial.kept = True
        self.all_are(2)
        # Entered again, it is not kept yet.
        with trial:
            self.office.put(3)
        self.all_are(2)

    def test_errors_go_on(self):
        for kept in (True, None):
            trial = Trial(self.office)
            with self.assertRaises(KeyError):
                with trial:
                    self.office.put(2)
                    trial.kept = kept
                    raise KeyError("x")
            self.all_are(0)
            self.assertIsNone(self.office.innermost)

    def test_within_one_another(self):
        for outer, inner, worth in ((True, True, 2), (True, None, 1), (None, True, 0), (None, None, 0)):
            self.office.put(0)
            around, within = Trial(self.office), Trial(self.office)
            with around:
                self.office.put(1)
                with within:
                    self.office.put(2)
                    within.kept = inner
                self.assertIs(self.office.innermost, around)
                self.all_are(2 if inner else 1)
                around.kept = outer
            self.all_are(worth)
