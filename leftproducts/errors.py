"""All errors of the package, directly below LeftError."""


def _told(value):
    # Any value may be told, and not each one can be written: only plain ones are.
    if isinstance(value, str) or (isinstance(value, int) and abs(value) < 1000000):
        return f": {value}"
    return ""


class LeftError(ValueError):
    """What the package refuses."""


class BadChange(LeftError):
    """No change of the turn that is wanted."""


class BadChoice(LeftError):
    """No choice for the frame or the book."""


class BadDeed(LeftError):
    """No deed."""


class BadEnd(LeftError):
    """No end of the frame."""


class BadFrame(LeftError):
    """No frame, or a part of one that breaks its rules."""

    def __init__(self, part):
        super().__init__(f"no frame{_told(part)}")
        self.part = part


class BadLead(LeftError):
    """No lead, or a part of one that breaks its rules."""

    def __init__(self, part):
        super().__init__(f"no lead{_told(part)}")
        self.part = part


class BadLengths(LeftError):
    """No fitting lengths of the places."""


class BadLive(LeftError):
    """No live frame."""


class BadMany(LeftError):
    """No book of many products, or a part of one that breaks its rules."""

    def __init__(self, part):
        super().__init__(f"no many products{_told(part)}")
        self.part = part


class BadName(LeftError):
    """No name of one to eight letters."""


class BadNumber(LeftError):
    """No number as the parameter wants it; part is the parameter's name."""

    def __init__(self, part):
        super().__init__(f"no fitting number{_told(part)}")
        self.part = part


class BadPrime(LeftError):
    """No prime from 2 to 31."""


class BadRow(LeftError):
    """No row of the places, or not such a row."""


class BadRules(LeftError):
    """No rules of a letter book."""


class BadTable(LeftError):
    """No table as it is wanted."""


class BadText(LeftError):
    """No text of the form that is wanted; at is the index of the first wrong line."""

    def __init__(self, at):
        super().__init__(f"no such text, line{_told(at)}")
        self.at = at


class BadWord(LeftError):
    """No word of the places."""


class BadWords(LeftError):
    """No sum or table of words."""


class NoWatch(LeftError):
    """Nothing is watched under the name."""

    def __init__(self, name):
        super().__init__(f"no watched name{_told(name)}")
        self.name = name


class NotFrame(LeftError):
    """The many products are not those of a frame."""


class NotLeast(LeftError):
    """A word of one place has a product."""


class NotOdd(LeftError):
    """The prime is 2."""


class NotUndone(LeftError):
    """The rows of one place cannot be undone."""


class NothingLeft(LeftError):
    """There is no deed to undo or to do again."""


class TooMany(LeftError):
    """There are more than most of what is counted."""

    def __init__(self, most):
        super().__init__(f"too many, more than{_told(most)}")
        self.most = most
