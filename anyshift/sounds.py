"""Sounds: what is heard by somebody who cannot tell the senders apart."""

from anyshift.counts import COLLISION, QUIET, class_lines, heard
from anyshift.groups import check_offsets, span


def sound(group, offsets):
    """Return a tuple for the ticks of a span: 0 for a quiet one, 1 if somebody gets through, 2 for a collision."""
    return tuple(line_sound(heard(group, offsets)))


def line_sound(line):
    """Return the list of the sounds of what is heard."""
    return [loudness(what) for what in line]


def loudness(what):
    """Return the sound of what is heard in a tick."""
    if what == QUIET:
        return 0
    return 2 if what == COLLISION else 1


def same_sound(group, offsets, others):
    """Tell whether the sounds of offsets and of others are the same but for time."""
    check_offsets(group, offsets)
    check_offsets(group, others)
    return first_turn(sound(group, offsets)) == first_turn(sound(group, others))


def first_turn(sounds):
    """Return the smallest text of all that the sounds are, begun at another tick: it is one for all of these."""
    text = "".join([str(part) for part in sounds])
    twice = text + text
    return min([twice[start:start + len(text)] for start in range(len(text))])


def unclear(group):
    """Return the smallest pair of two of the classes whose sounds are the same but for time, or None."""
    pairs = []
    firsts = {}
    for line, offsets in class_lines(group, span(group)):
        first = firsts.setdefault(first_turn(line_sound(line)), offsets)
        if first != offsets:
            pairs.append((first, offsets))
    return min(pairs, default=None)
