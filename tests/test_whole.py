"""Points [2] and [3] across all functions: which exception is due, that nothing is changed, and values of all kinds."""

import unittest
from itertools import product

from anyshift import codes, counts, errors, evens, groups, pairs, patterns, shuts, sounds, texts, waits
from anyshift.lines import Line
from samples import (LINES, SMALL_GROUPS, SPAN_423, CLASSES_242, LARGE, Calls, in_another_order, no_groups, no_integers,
                     no_offsets, no_patterns, no_senders)

GROUP = ((4, (0, 1)), (6, (0, 2)))
FOUR = ((2, (1,)), (4, (0, 1, 3)), (6, (5,)), (3, (0, 1)))
PATTERN = (4, (0, 1))


def no_patterns_besides():
    """Values that are no patterns, made anew: a few of them."""
    return no_patterns()[::6] + [(4, [0]), (4, (False, 1))]


def no_groups_besides():
    """Values that are no groups, made anew: a few of them."""
    return no_groups()[::6] + [[PATTERN, PATTERN], (PATTERN, (4, (0, True)))]


def no_numbers():
    """Values that are no integers, made anew: a few of them."""
    return no_integers()[::4] + [True, False]


def numbers_besides(*numbers):
    """Such values, and these integers, that are not let either."""
    return lambda: no_numbers() + list(numbers)


def no_offsets_besides():
    """Values that are no offsets of the group, made anew: a few of them."""
    return no_offsets(GROUP)[::4] + [[0, 0], (0, True), (0, 6)]


def no_texts_besides():
    """Values that are no texts of what is read, made anew."""
    return [thing for thing in no_integers()[::3] if not isinstance(thing, str)] + ["", " ", "0  1", "4: 0 1 ", "0 1\n"]


PATTERNS = ("NoPattern", no_patterns_besides)
GROUPS = ("NoGroup", no_groups_besides)
OFFSETS = ("NoOffsets", no_offsets_besides)
SENDERS = ("NoSender", lambda: no_senders(GROUP)[::4])
KINDS = ("NoKind", numbers_besides(-3, 2, 10 ** 12))
TEXTS = ("NoText", no_texts_besides)
PERIODS = ("NoPeriod", numbers_besides(1, 14, 10 ** 12))
SLOTS = ("NoSlots", numbers_besides(1, 4, 10 ** 12))

# Each function with arguments that are right, and for each argument that may be wrong the exception and such values:
# in the order in which the interface lists the exceptions. What may be any value is left out.
FUNCTIONS = (
    (patterns.is_pattern, {"thing": PATTERN}, {}),
    (patterns.sends, {"pattern": PATTERN, "offset": 3, "tick": -5},
     {"pattern": PATTERNS, "offset": ("NoOffset", numbers_besides(-1, 4)), "tick": ("NoTick", no_numbers)}),
    (patterns.share, {"pattern": PATTERN}, {"pattern": PATTERNS}),
    (patterns.shortest, {"pattern": (4, (0, 2))}, {"pattern": PATTERNS}),
    (patterns.turned, {"pattern": PATTERN, "by": 7}, {"pattern": PATTERNS, "by": ("NoNumber", no_numbers)}),
    (patterns.matching, {"one": PATTERN, "other": (4, (0, 3))}, {"one": PATTERNS, "other": PATTERNS}),
    (groups.is_group, {"thing": GROUP}, {}),
    (groups.span, {"group": GROUP}, {"group": GROUPS}),
    (groups.is_offsets, {"group": GROUP, "thing": (0, 5)}, {"group": GROUPS}),
    (groups.ticks_later, {"group": GROUP, "offsets": (0, 0), "others": (3, 5)},
     {"group": GROUPS, "offsets": OFFSETS, "others": OFFSETS}),
    (groups.earliest, {"group": GROUP, "offsets": (3, 4)}, {"group": GROUPS, "offsets": OFFSETS}),
    (groups.classes, {"group": GROUP}, {"group": GROUPS}),
    (counts.heard, {"group": GROUP, "offsets": (0, 1)}, {"group": GROUPS, "offsets": OFFSETS}),
    (counts.counts, {"group": GROUP, "offsets": (0, 1)}, {"group": GROUPS, "offsets": OFFSETS}),
    (counts.meets, {"group": GROUP, "offsets": (0, 1), "some": (0, 1)},
     {"group": GROUPS, "offsets": OFFSETS, "some": ("NoSome", lambda: [(), (1, 0), (0, 2), [0], (0, True), 0, None, (0, 0)])}),
    (counts.fewest, {"group": GROUP, "kind": -2}, {"group": GROUPS, "kind": KINDS}),
    (counts.greatest, {"group": GROUP, "kind": 1}, {"group": GROUPS, "kind": KINDS}),
    (counts.average, {"group": GROUP, "kind": -1}, {"group": GROUPS, "kind": KINDS}),
    (counts.shows_fewest, {"group": GROUP, "kind": 0, "thing": (4, (0, 1))}, {"group": GROUPS, "kind": KINDS}),
    (pairs.pair_meets, {"one": PATTERN, "other": (6, (0, 2))}, {"one": PATTERNS, "other": PATTERNS}),
    (pairs.sure_bound, {"group": GROUP, "who": 1}, {"group": GROUPS, "who": SENDERS}),
    (evens.is_even, {"group": GROUP}, {"group": GROUPS}),
    (evens.uneven, {"group": ((4, (0, 2)), (6, (0, 2, 4)))}, {"group": GROUPS}),
    (evens.even_with, {"shares": ((1, 2), (2, 3))},
     {"shares": ("NoShares", lambda: [None, (), ((1, 2),), ((1, 2), (2, 4)), [(1, 2), (1, 2)], ((1, 2), (True, 2))])}),
    (shuts.shut_out, {"group": GROUP, "who": 0}, {"group": GROUPS, "who": SENDERS}),
    (shuts.is_safe, {"group": GROUP}, {"group": GROUPS}),
    (shuts.addition, {"group": GROUP, "period": 5}, {"group": GROUPS, "period": ("NoPeriod", numbers_besides(1, 9))}),
    (waits.longest_wait, {"group": GROUP, "who": 0}, {"group": GROUPS, "who": SENDERS}),
    (waits.stop_ticks, {"group": GROUP, "offsets": (0, 1)}, {"group": GROUPS, "offsets": OFFSETS}),
    (waits.last_stop, {"group": GROUP}, {"group": GROUPS}),
    (codes.distances, {"pattern": PATTERN}, {"pattern": PATTERNS}),
    (codes.meet_once, {"one": PATTERN, "other": (4, (0, 2))}, {"one": PATTERNS, "other": PATTERNS}),
    (codes.smallest_code, {"period": 7, "slots": 2, "many": 2},
     {"period": PERIODS, "slots": SLOTS, "many": ("NoMany", numbers_besides(0, 5, 10 ** 12))}),
    (codes.code_size, {"period": 7, "slots": 3}, {"period": PERIODS, "slots": SLOTS}),
    (sounds.sound, {"group": GROUP, "offsets": (0, 1)}, {"group": GROUPS, "offsets": OFFSETS}),
    (sounds.same_sound, {"group": GROUP, "offsets": (0, 1), "others": (3, 4)},
     {"group": GROUPS, "offsets": OFFSETS, "others": OFFSETS}),
    (sounds.unclear, {"group": ((4, (0,)), (4, (0,)))}, {"group": GROUPS}),
    (texts.pattern_text, {"pattern": PATTERN}, {"pattern": PATTERNS}),
    (texts.group_text, {"group": GROUP}, {"group": GROUPS}),
    (texts.offsets_text, {"group": GROUP, "offsets": (0, 1)}, {"group": GROUPS, "offsets": OFFSETS}),
    (texts.heard_text, {"heard": (-2, -1, 0, 3)},
     {"heard": ("NoHeard", lambda: [None, 0, (), [0], (-3,), (4,), (True,), "x.0", (0, (1,)), (None,)])}),
    (texts.read_pattern, {"text": "4: 0 1"}, {"text": TEXTS}),
    (texts.read_group, {"text": "4: 0 1\n6: 0 2\n"}, {"text": TEXTS}),
    (texts.read_offsets, {"group": GROUP, "text": "0 1"}, {"group": GROUPS, "text": TEXTS}),
    (texts.read_heard, {"text": "x.0123"}, {"text": TEXTS}),
)

# What is raised of a group whose span is too long, or that has too many classes, if nothing else is wrong.
LONG = "heard counts meets fewest greatest shows_fewest is_even uneven shut_out is_safe longest_wait stop_ticks last_stop " \
    "sound same_sound unclear classes".split()
MANY = "fewest greatest shows_fewest is_even uneven shut_out is_safe longest_wait last_stop unclear classes".split()


class TestAllFunctions(Calls, unittest.TestCase):
    def test_all_are_listed(self):
        self.assertEqual(len(FUNCTIONS), 45)
        self.assertEqual(len({function.__name__ for function, _, _ in FUNCTIONS}), 45)

    def test_right_arguments(self):
        for function, named, _ in FUNCTIONS:
            before = repr(named)
            found = function(**named)
            for again in (function(*named.values()), function(**named), function(**in_another_order(named))):
                self.assertEqual(repr(again), repr(found))
            self.assertEqual(repr(named), before)

    def test_one_or_more_wrong_ones(self):
        """Of all that are wrong, that which the interface lists first tells the exception, of its class alone."""
        for function, named, wrong in FUNCTIONS:
            for chosen in product((False, True), repeat=len(wrong)):
                names = [name for name, taken in zip(wrong, chosen) if taken]
                if not names:
                    continue
                # Of those after the first one any that are wrong will do.
                for at, thing in enumerate(wrong[names[0]][1]()):
                    handed = {**named, names[0]: thing}
                    for name in names[1:]:
                        others = wrong[name][1]()
                        handed[name] = others[at % len(others)]
                    self.fails(getattr(errors, wrong[names[0]][0]), function, **handed)

    def test_any_value_where_one_may_stand(self):
        for function, named, wrong in FUNCTIONS:
            if "thing" in named:
                self.assertIs(function(**named), True)
                for thing in no_patterns() + no_groups() + no_offsets(GROUP) + [Line(*GROUP)]:
                    self.assertIsInstance(function(**{**named, "thing": thing}), bool)
                for name, (error, things) in wrong.items():
                    for thing in things():
                        self.fails(getattr(errors, error), function, **{**named, name: thing, "thing": object()})

    def test_too_large(self):
        """TooLong and TooMany come last, and functions for which they are not listed do not raise them."""
        for function, named, wrong in FUNCTIONS:
            name = function.__name__
            if "group" not in named or name == "addition":
                continue
            for group in (SPAN_423, CLASSES_242, LARGE):
                handed = {**named, "group": group}
                for each in handed:
                    if each in ("offsets", "others"):
                        handed[each] = (0,) * len(group)
                if name == "read_offsets":
                    handed["text"] = " ".join("0" * len(group))
                if name in LONG and groups.span(group) > 420:
                    self.too_long(groups.span(group), function, **handed)
                elif name in MANY and groups.span(group) <= 420:
                    limit = self.fails(errors.TooMany, function, **handed).limit
                    self.assertEqual(limit, 1000 if name == "last_stop" else 240)
                else:
                    function(**handed)
                for other in list(wrong)[1:]:
                    self.fails(getattr(errors, wrong[other][0]), function, **{**handed, other: None})

    def test_returned_values_may_be_passed_back(self):
        for group in SMALL_GROUPS:
            everything = groups.classes(group)
            self.fails(errors.NoGroup, groups.span, group=everything)
            self.returns(False, groups.is_offsets, group=group, thing=everything)
            for offsets in everything[:4]:
                line = counts.heard(group, offsets)
                self.returns(line, texts.read_heard, text=texts.heard_text(line))
                self.fails(errors.NoOffsets, sounds.sound, group=group, offsets=line + offsets)
                self.returns(offsets, texts.read_offsets, group=group, text=texts.offsets_text(group, offsets))
                self.returns(texts.heard_text(line * 20), texts.heard_text, heard=line * 20)
            self.returns(group, texts.read_group, text=texts.group_text(group))


class TestObjectsOfThePackage(unittest.TestCase):
    def test_lines_as_values(self):
        """A line is none of what is looked for, changes nothing by being handed in, and is not changed."""
        for made in LINES:
            line = made(*GROUP)
            line.start(0)
            before = repr((line, line.active, line.deeds, line.now))
            for function, named, wrong in FUNCTIONS:
                for name in wrong:
                    for thing in (line, (line,), (line, line), (4, line), (4, (0, line)), [line], {0: line}):
                        with self.assertRaises(getattr(errors, wrong[name][0])):
                            function(**{**named, name: thing})
            self.assertFalse(patterns.is_pattern(line) or groups.is_group((line, line)) or groups.is_offsets(GROUP, (0, line)))
            self.assertEqual(repr((line, line.active, line.deeds, line.now)), before)


if __name__ == "__main__":
    unittest.main()
