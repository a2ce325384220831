"""The errors of the package: each one keeps what it was raised for under the name that the document tells."""


class GivenError(ValueError):
    """Anything that the package refuses."""


class BadText(GivenError):
    """A text with a line that has no form or cannot stand there: its number, 0 for no string."""

    def __init__(self, number):
        super().__init__("a line of the text cannot stand there")
        self.number = number


class BadStand(GivenError):
    """What is no stand of the house, by its form."""

    def __init__(self, value):
        super().__init__("this is no stand of the house")
        self.value = value


class NoMove(GivenError):
    """What is no move that is possible there."""

    def __init__(self, value):
        super().__init__("this is no move that is possible there")
        self.value = value


class BadRun(GivenError):
    """A run that cannot be done: the number of its first move that is not possible, 0 for no tuple."""

    def __init__(self, number):
        super().__init__("a move of the run is not possible")
        self.number = number


class BadReader(GivenError):
    """What is no name of a reader of the rules."""

    def __init__(self, value):
        super().__init__("this is no reader of the rules")
        self.value = value


class BadMemory(GivenError):
    """What is no memory, by its form."""

    def __init__(self, value):
        super().__init__("this is no memory of a reader")
        self.value = value


class BadMove(GivenError):
    """What is no move, by its form."""

    def __init__(self, value):
        super().__init__("this is no move of the house")
        self.value = value


class BadRows(GivenError):
    """What are no rows that a move can write, by their form."""

    def __init__(self, value):
        super().__init__("these are no rows of a move")
        self.value = value


class BadPool(GivenError):
    """What is no pool of readers of the rules."""

    def __init__(self, value):
        super().__init__("this is no pool of readers")
        self.value = value


class BadAsk(GivenError):
    """What is no ask of the house."""

    def __init__(self, value):
        super().__init__("this is no ask of the house")
        self.value = value


class BadAsks(GivenError):
    """What is no tuple of at most three asks of the house."""

    def __init__(self, value):
        super().__init__("these are no asks of the house")
        self.value = value


class BadCase(GivenError):
    """What is no case, by its form."""

    def __init__(self, value):
        super().__init__("this is no case of the pool")
        self.value = value


class BadView(GivenError):
    """What is no view."""

    def __init__(self, value):
        super().__init__("this is no view of the pool")
        self.value = value


class BadCount(GivenError):
    """What is no number of moves that can be counted."""

    def __init__(self, value):
        super().__init__("this is no number of moves")
        self.value = value


class Unsure(GivenError):
    """Several answers are possible: these."""

    def __init__(self, answers):
        super().__init__("several answers are possible")
        self.answers = answers


class BadSecrets(GivenError):
    """What is no tuple of secrets."""

    def __init__(self, value):
        super().__init__("these are no secrets")
        self.value = value


class BadNeeds(GivenError):
    """What is no tuple of needs."""

    def __init__(self, value):
        super().__init__("these are no needs")
        self.value = value


class BadOffers(GivenError):
    """What is no tuple of offers."""

    def __init__(self, value):
        super().__init__("these are no offers")
        self.value = value


class BadChanges(GivenError):
    """What is no tuple of changes that the rules let."""

    def __init__(self, value):
        super().__init__("these are no changes of the rules")
        self.value = value


class BadChange(GivenError):
    """What is no change, by its form."""

    def __init__(self, value):
        super().__init__("this is no change")
        self.value = value


class BadOthers(GivenError):
    """Rules that are of another house."""

    def __init__(self, value):
        super().__init__("these are rules of another house")
        self.value = value


class BadWays(GivenError):
    """What is no tuple of ways."""

    def __init__(self, value):
        super().__init__("these are no ways")
        self.value = value


class BadDeed(GivenError):
    """What is no name of a deed."""

    def __init__(self, value):
        super().__init__("this is no deed of the house")
        self.value = value


class BadNumber(GivenError):
    """What is no number of a guard."""

    def __init__(self, value):
        super().__init__("this is no number of a guard")
        self.value = value


class BadGuards(GivenError):
    """What is no tuple of guards."""

    def __init__(self, value):
        super().__init__("these are no guards")
        self.value = value


class BadRules(GivenError):
    """What are no rules of this house."""

    def __init__(self, value):
        super().__init__("these are no rules of this house")
        self.value = value


class BadLine(GivenError):
    """What is no line that a desk knows."""

    def __init__(self, value):
        super().__init__("this is no line for a desk")
        self.value = value


class Telling(GivenError):
    """A guard whose secrets cannot be kept: its number."""

    def __init__(self, number):
        super().__init__("the secrets of a guard cannot be kept")
        self.number = number


class TooMany(GivenError):
    """More members than are looked at: the greatest number of them."""

    def __init__(self, number):
        super().__init__("there are too many to look at")
        self.number = number


class NothingToUndo(GivenError):
    """There is no move and no change to take back."""


class NothingToRedo(GivenError):
    """Nothing was taken back that could be done again."""


class NoTrial(GivenError):
    """There is no trial that could be kept."""
