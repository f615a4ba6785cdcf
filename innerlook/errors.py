"""The refusals: three families, and each error straight under one of them.

The texts of the families say nothing of what was found: the fields may be any
things, also such as can't be written.
"""


class InnerError(ValueError):
    """What is handed in is not what is wanted."""

    def __init__(self, text):
        ValueError.__init__(self, text)


class Missing(KeyError):
    """What is asked for is not there."""

    def __init__(self, text):
        KeyError.__init__(self, text)


class Barred(LookupError):
    """What is asked for can't be now."""

    def __init__(self, text):
        LookupError.__init__(self, text)


class NoNumber(InnerError):
    """What is handed in is not the whole number that is wanted."""

    def __init__(self, found):
        InnerError.__init__(self, "no such number")
        self.found = found


class NoName(InnerError):
    """What is handed in is no name."""

    def __init__(self, found):
        InnerError.__init__(self, "no name")
        self.found = found


class NoWorth(InnerError):
    """What is handed in is no worth, or writes none."""

    def __init__(self, found):
        InnerError.__init__(self, "no worth")
        self.found = found


class NoTree(InnerError):
    """What is handed in is no expression."""

    def __init__(self, found):
        InnerError.__init__(self, "no tree")
        self.found = found


class NoDeed(InnerError):
    """What is handed in is no deed."""

    def __init__(self, found):
        InnerError.__init__(self, "no deed")
        self.found = found


class NoParams(InnerError):
    """What is handed in is no row of parameters, or writes none."""

    def __init__(self, found):
        InnerError.__init__(self, "no row of parameters")
        self.found = found


class NoText(InnerError):
    """What is to be read is no text."""

    def __init__(self, found):
        InnerError.__init__(self, "no text")
        self.found = found


class NoRow(InnerError):
    """A text can't go on with the row of this number."""

    def __init__(self, at):
        InnerError.__init__(self, "no such row")
        self.at = at


class NoStore(InnerError):
    """What is handed in is no Store."""

    def __init__(self, found):
        InnerError.__init__(self, "no store")
        self.found = found


class NoKind(InnerError):
    """What is to be a kind is none that may be there."""

    def __init__(self, found):
        InnerError.__init__(self, "no kind")
        self.found = found


class NoRows(InnerError):
    """What is handed in is no such dict."""

    def __init__(self, found):
        InnerError.__init__(self, "no rows")
        self.found = found


class NoRules(InnerError):
    """What is handed in, or comes, is no rules of a stand-in."""

    def __init__(self, found):
        InnerError.__init__(self, "no rules")
        self.found = found


class NoAsk(InnerError):
    """What is handed in is no word of an ask, or no doing."""

    def __init__(self, found):
        InnerError.__init__(self, "no ask")
        self.found = found


class NoWay(InnerError):
    """What is handed in is no way of a wrapper."""

    def __init__(self, found):
        InnerError.__init__(self, "no way")
        self.found = found


class NoLine(InnerError):
    """What is said to a desk is no line."""

    def __init__(self, found):
        InnerError.__init__(self, "no line")
        self.found = found


class NoPaper(InnerError):
    """What is handed in is no paper."""

    def __init__(self, found):
        InnerError.__init__(self, "no paper")
        self.found = found


class NoList(InnerError):
    """What is handed in is no such list."""

    def __init__(self, found):
        InnerError.__init__(self, "no such list")
        self.found = found


class NoTruth(InnerError):
    """What is handed in is neither True nor False."""

    def __init__(self, found):
        InnerError.__init__(self, "no truth")
        self.found = found


class Unfit(InnerError):
    """What is found does not fit where it is to stand."""

    def __init__(self, found):
        InnerError.__init__(self, "unfit")
        self.found = found


class Doubled(InnerError):
    """What is found stands there twice."""

    def __init__(self, found):
        InnerError.__init__(self, "doubled")
        self.found = found


class TooMany(InnerError):
    """There are too many."""

    def __init__(self, many):
        InnerError.__init__(self, "too many")
        self.many = many


class NoThing(Missing):
    """No thing of this number is there."""

    def __init__(self, found):
        Missing.__init__(self, "no thing")
        self.found = found


class NotThere(Missing):
    """What is asked for is not there."""

    def __init__(self, found):
        Missing.__init__(self, "not there")
        self.found = found


class Fault(Barred):
    """What a program, or an ask, can't do: a word why, and what was found."""

    def __init__(self, why, found):
        Barred.__init__(self, "a fault")
        self.why = why
        self.found = found


class Ended(Barred):
    """What is asked for is not to be had while it runs, or behind its end."""

    def __init__(self, found):
        Barred.__init__(self, "ended")
        self.found = found


class Over(Barred):
    """It is over."""

    def __init__(self):
        Barred.__init__(self, "over")
