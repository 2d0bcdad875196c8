"""Texts: patterns, groups, offsets and what is heard, written and read again."""

from anyshift.counts import COLLISION
from anyshift.errors import NoHeard, NoText
from anyshift.groups import MOST_SENDERS, check_group, check_offsets, is_group, is_offsets
from anyshift.patterns import GREATEST_PERIOD, check_pattern, is_pattern
from anyshift.values import is_integer_from

# The signs of what is heard, from a collision on, which is the least: -2, -1, 0, 1, 2, 3.
SIGNS = "x.0123"


def pattern_text(pattern):
    """Return the text of a pattern."""
    check_pattern(pattern)
    period, slots = pattern
    return f"{period}: {numbers_text(slots)}"


def numbers_text(numbers):
    """Return the text of numbers, with one space between."""
    return " ".join([str(number) for number in numbers])


def group_text(group):
    """Return the text of a group, a line for each pattern."""
    check_group(group)
    return "".join([pattern_text(pattern) + "\n" for pattern in group])


def offsets_text(group, offsets):
    """Return the text of offsets of the group."""
    check_offsets(group, offsets)
    return numbers_text(offsets)


def heard_text(heard):
    """Return the text of what is heard, a sign for each tick."""
    if not is_heard(heard):
        raise NoHeard("what is heard is a tuple of one or more integers from -2 to 3")
    return "".join([SIGNS[what - COLLISION] for what in heard])


def is_heard(thing):
    """Tell whether any value is a tuple of what may be heard, of one tick or more."""
    if not isinstance(thing, tuple) or len(thing) == 0:
        return False
    return all([is_integer_from(part, COLLISION, MOST_SENDERS - 1) for part in thing])


def check_text(text):
    """Raise NoText for what is no text at all, or an empty one."""
    if not isinstance(text, str) or text == "":
        raise NoText("what is read is a text that is not empty")


def read_pattern(text):
    """Return the pattern that has this text."""
    check_text(text)
    first, *words = text.split(" ")
    if not first.endswith(":"):
        raise NoText("behind the period stands a colon, and then a space")
    period, *slots = read_numbers([first[:-1], *words])
    pattern = (period, tuple(slots))
    if not is_pattern(pattern):
        raise NoText("the numbers are no pattern")
    return pattern


def read_numbers(words):
    """Return the tuple of the numbers that are written by the words, none of them above the greatest period."""
    # To look them up leaves out what int takes besides: signs, zeros ahead, and whatever else.
    table = {str(number): number for number in range(GREATEST_PERIOD + 1)}
    if not all([word in table for word in words]):
        raise NoText("a number of a text is written without leading zeros, and is at most 60")
    return tuple([table[word] for word in words])


def read_group(text):
    """Return the group that has this text."""
    check_text(text)
    *lines, rest = text.split("\n")
    if rest != "":
        raise NoText("each line is ended by a line feed")
    group = tuple([read_pattern(line) for line in lines])
    if not is_group(group):
        raise NoText("a group has two to four patterns")
    return group


def read_offsets(group, text):
    """Return the offsets of the group that have this text."""
    check_group(group)
    check_text(text)
    offsets = read_numbers(text.split(" "))
    if not is_offsets(group, offsets):
        raise NoText("the numbers are no offsets of the group")
    return offsets


def read_heard(text):
    """Return the tuple of what is heard that has this text."""
    check_text(text)
    if not all([sign in SIGNS for sign in text]):
        raise NoText("the signs of what is heard are those of x.0123")
    return tuple([SIGNS.index(sign) + COLLISION for sign in text])
