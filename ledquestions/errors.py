"""The refusals of the program, each a class of its own right under AskError."""


class AskError(ValueError):
    """Any refusal."""


class NoRules(AskError):
    """These are no rules; number tells the first wrong one, -1 where they are no tuple of rules at all."""

    def __init__(self, number=-1):
        AskError.__init__(self, f"no rules: wrong from number {number}")
        self.number = number


class NoRows(AskError):
    """These are no rows."""


class NoRow(AskError):
    """This is no row."""


class NoRule(AskError):
    """This is no rule."""


class NoBook(AskError):
    """This is no tuple of rules and rows."""


class NoQuestion(AskError):
    """This is no question."""


class NoShorts(AskError):
    """These are no shorts."""


class Ring(AskError):
    """Shorts lead round; names tells along which of them."""

    def __init__(self, names=()):
        AskError.__init__(self, "the names told by shorts lead round")
        self.names = names


class NoStep(AskError):
    """This is no step for the question."""


class TooMany(AskError):
    """A least lot has too many questions."""


class TooGreat(AskError):
    """What would come of it is beyond a bound."""


class Clash(AskError):
    """No world keeps the book; rows tells a least lot of rows that can't all be."""

    def __init__(self, rows=()):
        AskError.__init__(self, "these rows can't all be by the rules")
        self.rows = rows


class NotSure(AskError):
    """This is no sure answer."""


class NoText(AskError):
    """This is no such text; line tells the first wrong line, -1 where it is no text at all."""

    def __init__(self, line=-1):
        AskError.__init__(self, f"no such text: wrong from line {line}")
        self.line = line


class NoName(AskError):
    """This is no name."""


class Twice(AskError):
    """It is there already."""


class Missing(AskError):
    """It is not there."""


class NoDeeds(AskError):
    """These are no deeds."""


class NoDeed(AskError):
    """This is no deed."""


class Broken(AskError):
    """A batch was given up; number tells at which of its deeds."""

    def __init__(self, number=-1):
        AskError.__init__(self, f"the batch broke at deed {number}")
        self.number = number


class Nothing(AskError):
    """There is nothing to take back."""


class Long(AskError):
    """Too many deeds stand."""
