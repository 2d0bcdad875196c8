"""Values, and slow but plain ways to the right answers, that the tests share."""

from itertools import product

from anyshift import errors
from anyshift.lines import Line, Logged, Stopping, StoppingLogged

LINES = (Line, Stopping, Logged, StoppingLogged)

PATTERNS = (
    (2, (0,)), (2, (1,)), (3, (0, 2)), (4, (0, 1)), (4, (0, 2)), (4, (1, 3)), (5, (0, 1, 2, 3)), (6, (0, 2)),
    (6, (0, 2, 4)), (6, (1, 3, 5)), (6, (0, 1, 3, 4)), (8, (0, 4)), (8, (0, 1, 4, 5)), (9, (2, 5, 8)),
    (12, (0, 2, 6, 8)), (12, (1, 3, 5, 7, 9, 11)), (60, (59,)), (60, tuple(range(59))), (60, tuple(range(1, 60))),
    (60, tuple(range(0, 60, 5))),
)

SMALL_GROUPS = (
    ((2, (0,)), (2, (0,))),
    ((2, (0,)), (2, (1,)), (2, (0,))),
    ((4, (0, 1)), (6, (0, 2))),
    ((6, (0, 2)), (4, (0, 1))),
    ((4, (0, 2)), (6, (0, 2, 4))),
    ((3, (0,)), (5, (1, 2))),
    ((4, (0, 1)), (4, (0, 1)), (4, (0, 1))),
    ((4, (0,)), (6, (0, 2, 3)), (3, (1,))),
    ((6, (0, 1)), (4, (3,)), (9, (0, 4, 8))),
    ((2, (1,)), (4, (0, 1, 3)), (6, (5,)), (3, (0, 1))),
    ((60, (0, 30, 59)), (2, (1,))),
    ((2, (0,)), (60, tuple(range(1, 60)))),
    ((4, (0,)), (4, (0, 2)), (4, (1,)), (4, (0, 1, 2))),
    ((6, (0, 1)), (4, (0, 3)), (6, (0, 1)), (2, (0,))),
)

# The greatest span for which ticks are gone through, and the least one above it.
SPAN_420 = ((60, (0, 7, 20)), (7, (0, 3)))
SPAN_423 = ((9, (0, 2)), (47, (1, 40)))

# The greatest span and the greatest number of classes, together; it is even and safe.
SPAN_420_CLASSES_240 = ((60, tuple(range(0, 60, 2))), (60, tuple(range(0, 60, 3))), (28, (0, 1, 2, 3)))

# The greatest number of classes that are gone through, and the least one above it.
CLASSES_240 = ((60, (0, 1, 2)), (60, (5,)), (4, (0,)))
CLASSES_242 = ((22, (0, 1)), (22, (0,)), (11, (4,)))

# Above the limit of the classes alone, and above both limits.
CLASSES_3600 = ((60, (0,)), (60, (0,)), (60, (0,)), (7, (0,)))
LARGE = ((60, (0,)), (60, (0, 1)), (60, (0,)), (11, (0,)))

# Of a span of many millions, without and with common factors.
HUGE = ((59, (0, 58)), (58, (1,)), (57, (0, 1, 2)), (55, tuple(range(54))))
HUGE_SHARED = ((60, (0, 1)), (56, (0,)), (57, (0, 5)), (53, (1, 2, 3)))


def nested(depth):
    """A tuple in a tuple, so many deep."""
    thing = 0
    for _ in range(depth):
        thing = (thing,)
    return thing


def no_integers():
    """Values of all kinds but integers, made anew."""
    return [
        None, True, False, "", "0", "4: 0 1\n", "x" * 2000, [], [0], [0, 1], (), (0,), (0, 0), (0, (0, 0)), (True,),
        {}, {0: 1}, {"a": [1, (None, False)]}, nested(20), tuple(range(4000)), [[]] * 4000, [(4, (0, 1)), (6, (0, 2))],
        errors.ShiftError(), errors.NoPattern("none"), errors.TooLong(421, 420), errors.TooMany(241, 240),
        Line((4, (0, 1)), (6, (0, 2))), (Line((4, (0, 1)), (6, (0, 2))),), StoppingLogged((2, (0,)), (2, (1,)), (3, (0,))),
    ]


def no_patterns():
    """Values of all kinds but patterns, made anew."""
    return no_integers() + [
        0, 4, -1, 10 ** 13 - 1,
        (1, (0,)), (61, (0,)), (0, (0,)), (-4, (0,)), (1, ()), (10 ** 12, (0,)), (4, ()), (60, ()), (2, (0, 1)),
        (4, (0, 1, 2, 3)), (60, tuple(range(60))), (4, (1, 0)), (4, (0, 2, 1)), (4, (0, 0)), (4, (0, 1, 1)),
        (4, (4,)), (4, (0, 4)), (4, (-1,)), (4, (-1, 0)), (60, (60,)), (4, [0]), [4, (0,)], [4, [0]], (4,), ((0,), 4),
        (4, (0,), 0), (4, (0,), (1,)), ((4, (0,)),), (True, (0,)), (False, (0,)), (None, (0,)), ("4", (0,)),
        ([4], (0,)), (4, 0), (4, None), (4, True), (4, "0"), (4, {0: 0}), (4, {}), (4, ((0,),)), (4, (True,)),
        (4, (False,)), (4, (0, True)), (4, (False, 1)), (4, (False, True)), (4, (0, None)), (4, (0, "1")),
        (4, (0, [1])), (4, (0, (1,))), (4, nested(19)), (60, tuple(range(3990))), {4: (0,)}, {0: 4, 1: (0,)},
        (4, errors.NoSome()), (errors.NoSome(), (0,)), SMALL_GROUPS[0],
    ]


def no_groups():
    """Values of all kinds but groups, made anew."""
    good = (4, (0, 1))
    return no_integers() + [
        0, 2, -1, good, (good,), (good,) * 5, (good,) * 100, [good, good], [good] * 4, {0: good, 1: good}, (good, None),
        (None, good), (good, good, None), (good, good, good, True), ((good, good), (good, good)), (good, [4, (0, 1)]),
        (good, (4, [0, 1])), (good, (4, (0, True))), (good, (4, (False, 1))), (good, (True, (0,))), (good, (61, (0,))),
        (good, (1, (0,))), (good, (4, ())), (good, (4, (0, 1, 2, 3))), ((4, (1, 0)), good), (good, good, good, (4, (4,))),
        (good, "4: 0 1"), "4: 0 1\n6: 0 2\n", (good, errors.NoGroup()), (4, 6), ((0, 1), (0, 2)),
    ]


def no_offsets(group):
    """Values of all kinds but offsets of the group, made anew."""
    zeros = (0,) * len(group)
    things = [
        None, True, False, 0, 1, "", "0 0", "00", [], {}, (), list(zeros), {0: 0, 1: 0}, zeros[1:], zeros + (0,), (zeros,),
        zeros * 1000, group, nested(20), errors.NoOffsets(), (None,) * len(group), ("0",) * len(group),
        ((0,),) * len(group), ([],) * len(group), (False,) * len(group), (True,) * len(group), (errors.NoTick(),) * len(group),
    ]
    for who, pattern in enumerate(group):
        for wrong in (-1, pattern[0], -pattern[0], 10 ** 12, True, False, None, "0", (0,), [0]):
            things.append(zeros[:who] + (wrong,) + zeros[who + 1:])
    return things


def no_senders(group):
    """Values of all kinds but numbers of senders of the group, made anew."""
    return no_integers() + [-1, -2, len(group), len(group) + 1, 10 ** 12, -10 ** 12]


def all_offsets(group):
    """All offsets of a group, ascending."""
    return list(product(*[range(period) for period, _ in group]))


def plain_span(group):
    """The least number of ticks that is a multiple of all periods, found by trying."""
    ticks = 1
    while any(ticks % period for period, _ in group):
        ticks += 1
    return ticks


def later(group, offsets, ticks):
    """The offsets of senders that begin so many ticks later."""
    return tuple((offset + ticks) % period for (period, _), offset in zip(group, offsets))


def plain_earliest(group, offsets):
    """The smallest of all offsets that are the same but for time, by going through all ticks."""
    return min(later(group, offsets, tick) for tick in range(plain_span(group)))


def plain_heard(group, offsets):
    """What is heard in a span, tick by tick."""
    line = []
    for tick in range(plain_span(group)):
        loud = [who for who, (period, slots) in enumerate(group) if (tick - offsets[who]) % period in slots]
        line.append(-1 if not loud else loud[0] if len(loud) == 1 else -2)
    return tuple(line)


def plain_masks(group):
    """For each pattern the ticks of a span in which it sends, as bits, for each offset."""
    ticks = range(plain_span(group))
    return [[sum(1 << tick for tick in ticks if (tick - offset) % period in slots) for offset in range(period)]
            for period, slots in group]


def plain_through(masks, offsets):
    """For each sender the ticks in which it gets through, as bits."""
    loud = [row[offset] for row, offset in zip(masks, offsets)]
    found = []
    for who, bits in enumerate(loud):
        for other in loud[:who] + loud[who + 1:]:
            bits &= ~other
        found.append(bits)
    return found


def plain_safe(group):
    """Whether everybody gets through with all offsets; the first one begins with offset 0, for time does not matter."""
    masks = plain_masks(group)
    choices = product([0], *[range(period) for period, _ in group[1:]])
    return all(all(plain_through(masks, offsets)) for offsets in choices)


def plain_even(group):
    """Whether all counts are the same for all offsets; the first one begins with offset 0, for time does not matter."""
    masks = plain_masks(group)
    seen = set()
    for offsets in product([0], *[range(period) for period, _ in group[1:]]):
        loud = 0
        for row, offset in zip(masks, offsets):
            loud |= row[offset]
        seen.add((loud.bit_count(), *[bits.bit_count() for bits in plain_through(masks, offsets)]))
    return len(seen) == 1


def plain_counts(group, offsets):
    """How many ticks of a span are quiet, of each sender, and collisions."""
    line = plain_heard(group, offsets)
    return tuple(sum(1 for what in line if what == kind) for kind in [-1, *range(len(group)), -2])


def kinds(group):
    """All kinds of ticks, in the order of the counts."""
    return [-1, *range(len(group)), -2]


def in_another_order(named):
    """The same names and values, the last one first."""
    return dict(reversed(list(named.items())))


class Choices:
    """Integers that look as if they were drawn, the same ones in each run."""

    def __init__(self, seed):
        self.state = seed

    def below(self, limit):
        """The next one, from 0 to limit - 1."""
        self.state = (self.state * 6364136223846793005 + 1442695040888963407) % 2 ** 64
        return (self.state >> 33) % limit

    def one_of(self, things):
        """The next one of a list."""
        return things[self.below(len(things))]

    def pattern(self, greatest):
        """The next pattern of a period from 2 to the greatest."""
        period = 2 + self.below(greatest - 1)
        slots = [slot for slot in range(period) if self.below(3) == 0][:period - 1]
        return (period, tuple(slots) or (self.below(period),))

    def group(self, greatest, many):
        """The next group of so many patterns."""
        return tuple(self.pattern(greatest) for _ in range(many))

    def offsets(self, group):
        """The next offsets of the group."""
        return tuple(self.below(period) for period, _ in group)


class Calls:
    """Checks of calls, for a class of tests to be derived from."""

    def returns(self, wanted, function, **named):
        """It returns just this, by position, by name and once more, and changes no argument."""
        before = repr(named)
        self.assertEqual(repr(function(*named.values())), repr(wanted), (function.__name__, named))
        self.assertEqual(repr(function(**named)), repr(wanted), (function.__name__, named))
        if len(named) > 1:
            self.assertEqual(repr(function(**in_another_order(named))), repr(wanted), (function.__name__, named))
        self.assertEqual(repr(named), before, function.__name__)

    def fails(self, error, function, **named):
        """It raises just this error, by position and by name, and changes no argument; returns what was raised."""
        before = repr(named)
        with self.assertRaises(errors.ShiftError, msg=(function.__name__, before)) as held:
            function(*named.values())
        self.assertIs(held.exception.__class__, error, (function.__name__, before))
        with self.assertRaises(error, msg=(function.__name__, before)):
            function(**in_another_order(named))
        self.assertEqual(repr(named), before, function.__name__)
        return held.exception

    def too_long(self, span, function, **named):
        """It raises TooLong with this span."""
        raised = self.fails(errors.TooLong, function, **named)
        self.assertEqual(repr((raised.span, raised.limit)), repr((span, 420)))

    def too_many(self, many, function, **named):
        """It raises TooMany with this number of classes."""
        raised = self.fails(errors.TooMany, function, **named)
        self.assertEqual(repr((raised.many, raised.limit)), repr((many, 240)))
