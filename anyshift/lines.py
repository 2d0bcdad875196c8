"""Lines: senders that begin and end while the ticks pass, and deeds that can be taken back."""

from anyshift.counts import COLLISION, QUIET
from anyshift.errors import NoTicks, NothingDone, NotStarted, Started
from anyshift.groups import check_group, check_sender
from anyshift.patterns import sends_at
from anyshift.values import is_integer, is_integer_from

MOST_TICKS = 200


def what_is_heard(loud):
    """Return what is heard in a tick in which the senders of a list send."""
    if len(loud) == 0:
        return QUIET
    return loud[0] if len(loud) == 1 else COLLISION


def with_part(row, at, part):
    """Return the tuple with this part in the place at."""
    return (*row[:at], part, *row[at + 1:])


class Line:
    """A line with two to four senders, at first in tick 0, and nobody has begun."""

    def __init__(self, *patterns):
        check_group(patterns)
        self._group = patterns
        self._now = 0
        # For each sender the tick in which it began, None if it is not active.
        self._began = (None,) * len(patterns)
        self._through = (0,) * len(patterns)
        self._collisions = 0
        # What was heard in each tick: kept by all classes, although only some tell it, so that a trial can restore it.
        self._heard = []
        # The state before each deed, without what was heard: that needs only to be cut off.
        self._past = []

    @property
    def group(self):
        """The patterns of the senders."""
        return self._group

    @property
    def now(self):
        """The tick that is now."""
        return self._now

    @property
    def active(self):
        """The set of the senders that have begun and not ended."""
        return tuple([who for who, tick in enumerate(self._began) if tick is not None])

    @property
    def through(self):
        """How often each sender got through."""
        return self._through

    @property
    def collisions(self):
        """How many collisions there were."""
        return self._collisions

    @property
    def deeds(self):
        """How many deeds have not been taken back."""
        return len(self._past)

    def start(self, who):
        """Let a sender begin now."""
        check_sender(self._group, who)
        if self._began[who] is not None:
            raise Started("the sender has begun already")
        self._keep()
        self._began = with_part(self._began, who, self._now)

    def stop(self, who):
        """Let a sender end, that may begin again later."""
        check_sender(self._group, who)
        if self._began[who] is None:
            raise NotStarted("the sender has not begun")
        self._keep()
        self._end(who)

    def tick(self):
        """Let this tick pass, and return what is heard in it."""
        self._keep()
        return self._pass()

    def run(self, ticks):
        """Let so many ticks pass, as one deed, and return the tuple of what is heard in them."""
        if not is_integer_from(ticks, 1, MOST_TICKS):
            raise NoTicks("a line runs for 1 to 200 ticks")
        self._keep()
        return tuple([self._pass() for _ in range(ticks)])

    def undo(self):
        """Take back the last deed that has not been taken back."""
        if len(self._past) == 0:
            raise NothingDone("there is no deed left to take back")
        self._now, self._began, self._through, self._collisions = self._past.pop()
        del self._heard[self._now:]

    def trial(self, task):
        """Call the task with this line; if an exception leaves it, the line is as it was before."""
        # The task may also take back deeds that were done before the trial, so that these are kept, too.
        now, began, through, collisions = self._state()
        told, past = list(self._heard), list(self._past)
        try:
            found = task(self)
            now, began, through, collisions = self._state()
            told, past = self._heard, self._past
        finally:
            # Behind an exception these are still what they were before the task was called.
            self._now, self._began = now, began
            self._through, self._collisions = through, collisions
            self._heard, self._past = told, past
        return found

    def _state(self):
        """Return all that a deed may change, without what was heard."""
        return (self._now, self._began, self._through, self._collisions)

    def _keep(self):
        """Keep the state before a deed."""
        self._past.append(self._state())

    def _end(self, who):
        """Let an active sender end."""
        self._began = with_part(self._began, who, None)

    def _pass(self):
        """Let this tick pass, as a part of a deed, and return what is heard in it."""
        what = what_is_heard([who for who in self.active if sends_at(self._group[who], self._began[who], self._now)])
        if what == COLLISION:
            self._collisions += 1
        elif what != QUIET:
            self._through = with_part(self._through, what, self._through[what] + 1)
        self._heard.append(what)
        self._now += 1
        return what

    def __getitem__(self, who):
        """Return the tick in which a sender began, None if it is not active."""
        check_sender(self._group, who)
        return self._began[who]

    def __call__(self, who):
        """Return in how many ticks from now a sender sends next, None if it is not active."""
        check_sender(self._group, who)
        began = self._began[who]
        if began is None:
            return None
        period, slots = self._group[who]
        return min([(began + slot - self._now) % period for slot in slots])

    def __contains__(self, thing):
        """Tell whether any value is the number of an active sender."""
        return is_integer(thing) and thing in self.active

    def __len__(self):
        """Return the number of active senders."""
        return len(self.active)

    def __eq__(self, other):
        """Tell whether any value is a line of the same class, with the same group and state."""
        if not isinstance(other, Line) or self.__class__.__name__ != other.__class__.__name__:
            return False
        return self._group == other._group and self._state() == other._state()

    def __repr__(self):
        """Return a text as Line(tick 7, 2 active), with the name of the class."""
        return "".join([self.__class__.__name__, f"(tick {self._now}, {len(self.active)} active)"])

    # Without this, Python would walk over a line by line[0], line[1] and so on.
    def __iter__(self):
        raise TypeError("nobody walks over a line")


class Stopping(Line):
    """A line on which a sender that gets through ends behind this tick."""

    def __init__(self, *patterns):
        super().__init__(*patterns)

    def _pass(self):
        """Let this tick pass, and who gets through in it end."""
        what = super()._pass()
        if what not in (QUIET, COLLISION):
            self._end(what)
        return what


class Logged(Line):
    """A line that tells all that was heard since tick 0."""

    def __init__(self, *patterns):
        super().__init__(*patterns)

    @property
    def log(self):
        """The tuple of all that was heard since tick 0."""
        return tuple(self._heard)


class StoppingLogged(Stopping, Logged):
    """A line on which a sender that gets through ends, and that tells all that was heard."""

    def __init__(self, *patterns):
        super().__init__(*patterns)

    @property
    def log(self):
        """The tuple of all that was heard since tick 0."""
        return tuple(self._heard)
