"""All exceptions of the package."""


class ShiftError(ValueError):
    """What all exceptions of the package are derived from."""


class NoPattern(ShiftError):
    """Something is no pattern."""


class NoOffset(ShiftError):
    """Something is no offset of the pattern."""


class NoTick(ShiftError):
    """Something is no tick."""


class NoNumber(ShiftError):
    """Something is no integer."""


class NoGroup(ShiftError):
    """Something is no group."""


class NoOffsets(ShiftError):
    """Something is no tuple of offsets of the group."""


class NoSome(ShiftError):
    """Something is no set of one or more numbers of patterns."""


class NoKind(ShiftError):
    """Something is no kind of tick."""


class NoSender(ShiftError):
    """Something is no number of a sender."""


class NoShares(ShiftError):
    """Something is no tuple of shares that a group is made for."""


class NoPeriod(ShiftError):
    """Something is no period that the function takes."""


class NoRoom(ShiftError):
    """The group has four patterns already."""


class NoSlots(ShiftError):
    """Something is no number of slots that the function takes."""


class NoMany(ShiftError):
    """Something is no number of patterns that the function takes."""


class OtherPeriods(ShiftError):
    """The two patterns have different periods."""


class NoTicks(ShiftError):
    """Something is no number of ticks that a line runs at once."""


class Started(ShiftError):
    """The sender has begun already."""


class NotStarted(ShiftError):
    """The sender has not begun."""


class NothingDone(ShiftError):
    """There is no deed left to take back."""


class NoHeard(ShiftError):
    """Something is no tuple of what is heard."""


class NoText(ShiftError):
    """Something is not a text of what is read."""


class TooLong(ShiftError):
    """The span is above the limit."""

    def __init__(self, span, limit):
        super().__init__(f"the span {span} is above {limit}")
        self.span = span
        self.limit = limit


class TooMany(ShiftError):
    """There are more cases than the limit."""

    def __init__(self, many, limit):
        super().__init__(f"the number of cases {many} is above {limit}")
        self.many = many
        self.limit = limit
