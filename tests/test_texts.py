"""Point [110], with points [2] and [3] for these functions."""

import unittest
from itertools import combinations, product

from anyshift.counts import heard
from anyshift.errors import NoGroup, NoHeard, NoOffsets, NoPattern, NoText
from anyshift.groups import classes, is_group, is_offsets
from anyshift.patterns import is_pattern
from anyshift.texts import (group_text, heard_text, offsets_text, pattern_text, read_group, read_heard, read_offsets,
                            read_pattern)
from samples import (CLASSES_240, CLASSES_3600, HUGE, HUGE_SHARED, PATTERNS, SMALL_GROUPS, SPAN_420, SPAN_423, Calls,
                     all_offsets, no_groups, no_integers, no_offsets, no_patterns, plain_heard)

GROUP = ((4, (0, 1)), (6, (0, 2)))
FOUR = ((2, (1,)), (4, (0, 1, 3)), (6, (5,)), (3, (0, 1)))
FULL = (60, tuple(range(59)))
FULL_TEXT = "60: " + " ".join(str(slot) for slot in range(59))

# What may stand in a text, and what else a number may be written with.
SIGNS = " :0123456789\nx.-+_,;a"


def no_texts():
    """Values of all kinds but texts, made anew."""
    return [thing for thing in no_integers() if not isinstance(thing, str)] + [
        0, 4, -1, 10 ** 12, ("4: 0",), ["4: 0"], {"4: 0": "4: 0"}, ("4", ":", " ", "0"), (4, (0,)), GROUP, (0, 0), (-1, -2),
    ]


def spoiled(text):
    """Texts with a sign more, a sign less, another sign, or two signs exchanged."""
    found = {""}
    for at in range(len(text) + 1):
        found.update(text[:at] + sign + text[at:] for sign in SIGNS)
        found.update(text[:at] + sign + text[at + 1:] for sign in SIGNS)
        found.add(text[:at] + text[at + 1:])
        found.add(text[:at] + text[at:at + 2][::-1] + text[at + 2:])
    found.update((text * 2, text + " " + text, text + "\n" + text, " " + text + " ", text.upper(), text[::-1]))
    found.discard(text)
    return sorted(found)


class Texts(Calls):
    """Checks of texts that are written and read."""

    def both(self, value, text, write, read, **named):
        """It is written so, and read again."""
        self.returns(text, write, **named)
        self.assertTrue(all(sign == "\n" or " " <= sign <= "~" for sign in text) and len(text) <= 2000)
        if "group" in named and "offsets" in named:
            self.returns(value, read, group=named["group"], text=text)
        else:
            self.returns(value, read, text=text)

    def read_as_written(self, texts, written, read, **named):
        """Each of the texts that is one of those written, a dict, is read as its value; all others are none."""
        for text in texts:
            if text in written:
                self.returns(written[text], read, **named, text=text)
            else:
                self.fails(NoText, read, **named, text=text)


class TestPatternText(Texts, unittest.TestCase):
    def test_examples(self):
        self.both((6, (0, 2)), "6: 0 2", pattern_text, read_pattern, pattern=(6, (0, 2)))
        self.both((2, (0,)), "2: 0", pattern_text, read_pattern, pattern=(2, (0,)))
        self.both((2, (1,)), "2: 1", pattern_text, read_pattern, pattern=(2, (1,)))
        self.both((10, (0, 9)), "10: 0 9", pattern_text, read_pattern, pattern=(10, (0, 9)))
        self.both((60, (59,)), "60: 59", pattern_text, read_pattern, pattern=(60, (59,)))
        self.both(FULL, FULL_TEXT, pattern_text, read_pattern, pattern=FULL)

    def test_all_patterns(self):
        for pattern in PATTERNS:
            text = f"{pattern[0]}:" + "".join(f" {slot}" for slot in pattern[1])
            self.both(pattern, text, pattern_text, read_pattern, pattern=pattern)
        for period in range(2, 61):
            for slots in ((0,), (period - 1,), tuple(range(1, period))):
                self.assertEqual(read_pattern(pattern_text((period, slots))), (period, slots))

    def test_numbers(self):
        for period in (-1, 0, 1, 2, 59, 60, 61, 99, 100, 600, 10 ** 12):
            for slot in (-1, 0, 1, 2, 57, 59, 60, 100, 10 ** 12):
                if is_pattern((period, (slot,))):
                    self.returns((period, (slot,)), read_pattern, text=f"{period}: {slot}")
                else:
                    self.fails(NoText, read_pattern, text=f"{period}: {slot}")

    def test_wrong_texts(self):
        for text in (
            "", " ", ":", ": ", "6", "6:", "6: ", "6:0", "6:0 2", "6 0 2", "6 : 0 2", "6:  0 2", "6: 0  2", "6: 0 2 ",
            " 6: 0 2", "6: 0 2\n", "\n6: 0 2", "6: 0\n2", "6:\n0 2", "6: 2 0", "6: 0 0", "6: 0 2 2", "6: 6", "6: 0 6",
            "6: 0 1 2 3 4 5", "1: 0", "0: 0", "61: 0", "1:", "2: 0 1", "06: 0 2", "6: 00 2", "6: 0 02", "6: 0 2.0", "6: -0 2",
            "6: +0 2", "+6: 0 2", "-6: 0 2", "6: 0 -2", "6: 0, 2", "6: 0,2", "(6, (0, 2))", "6;0 2", "6:: 0 2", "6: : 0 2",
            "6: 0: 2", "6: 0 2:", "1_0: 0", "6: 0 2 x", "six: 0 2", "6: 0 two", "6: 0x2", "0x6: 0", "6: 0 2" * 300,
            "6:" + " 0" * 999, "9" * 2000, "9" * 1990 + ": 0 2", "6: " + "9" * 1990, "6: 0 2" + "0" * 1990, " " * 2000,
            "\t6: 0 2", "6:\t0 2", "6: 0\t2", "60: " + " ".join(str(slot) for slot in range(60)), FULL_TEXT + " 60",
        ):
            self.fails(NoText, read_pattern, text=text)

    def test_spoiled_texts(self):
        written = {pattern_text((period, slots)): (period, slots) for period in range(2, 61)
                   for many in (1, 2) for slots in combinations(range(period), many) if many < period}
        for slots in combinations(range(6), 3):
            written[pattern_text((6, slots))] = (6, slots)
        for text in ("2: 1", "6: 0 2", "12: 3 10"):
            self.assertIn(text, written)
            # Of three slots or of longer numbers, only those of a few patterns are told.
            texts = [row for row in spoiled(text) if row in written or not is_written(row)]
            self.assertGreater(len(texts), 100)
            self.read_as_written(texts, written, read_pattern)

    def test_wrong(self):
        for thing in no_patterns():
            self.fails(NoPattern, pattern_text, pattern=thing)
        for thing in no_texts():
            self.fails(NoText, read_pattern, text=thing)


def is_written(text):
    """Whether a text is that of a pattern: the plain way back to it, for texts of digits, spaces and colons alone."""
    first, _, rest = text.partition(": ")
    words = [first, *rest.split(" ")]
    if not all(word.isdigit() and word.isascii() and str(int(word)) == word for word in words):
        return False
    return is_pattern((int(first), tuple(int(word) for word in words[1:])))


class TestGroupText(Texts, unittest.TestCase):
    def test_examples(self):
        self.both(GROUP, "4: 0 1\n6: 0 2\n", group_text, read_group, group=GROUP)
        self.both(FOUR, "2: 1\n4: 0 1 3\n6: 5\n3: 0 1\n", group_text, read_group, group=FOUR)
        self.both(((2, (0,)),) * 3, "2: 0\n2: 0\n2: 0\n", group_text, read_group, group=((2, (0,)),) * 3)
        self.both((FULL,) * 4, (FULL_TEXT + "\n") * 4, group_text, read_group, group=(FULL,) * 4)

    def test_all_groups(self):
        for group in (*SMALL_GROUPS, SPAN_420, SPAN_423, CLASSES_240, CLASSES_3600, HUGE, HUGE_SHARED):
            text = "".join(pattern_text(pattern) + "\n" for pattern in group)
            self.both(group, text, group_text, read_group, group=group)

    def test_how_many_lines(self):
        for many in range(8):
            text = "4: 0 1\n" * many
            if is_group(((4, (0, 1)),) * many):
                self.returns(((4, (0, 1)),) * many, read_group, text=text)
            else:
                self.fails(NoText, read_group, text=text)
        self.fails(NoText, read_group, text="2: 0\n" * 400)

    def test_wrong_texts(self):
        for text in (
            "", "\n", "\n\n", "\n" * 2000, " ", "4: 0 1", "4: 0 1\n", "4: 0 1\n6: 0 2", "4: 0 1\n6: 0 2\n\n",
            "\n4: 0 1\n6: 0 2\n", "4: 0 1\n\n6: 0 2\n", "4: 0 1 6: 0 2\n", "4: 0 1\n6: 0 2\n ", " 4: 0 1\n6: 0 2\n",
            "4: 0 1 \n6: 0 2\n", "4: 0 1\n 6: 0 2\n", "4: 0 1\n6: 0 2 \n", "4: 0 1\n6: 2 0\n", "4: 0 4\n6: 0 2\n",
            "4: 0 1\n6:\n", "4: 0 1\n06: 0 2\n", "4: 0 1\n6: 0  2\n", "4: 0 1\n61: 0\n", "4: 0 1;6: 0 2;", "4: 0 1\\n6: 0 2\\n",
            "4: 0 1\r\n6: 0 2\r\n", "4: 0 1\r6: 0 2\r", "4: 0 1\n6: 0 2\nx\n", "4: 0 1\n6: 0 2\n4: 0\n4: 1\n4: 2\n",
            "6: 0 2\n6: 0 1 2 3 4 5\n", "4: 0 1\n6: 0 2\x0b",
        ):
            self.fails(NoText, read_group, text=text)

    def test_spoiled_texts(self):
        text = "2: 1\n6: 0 2\n"
        for other in spoiled(text):
            lines = other.split("\n")
            if lines[-1] == "" and 3 <= len(lines) <= 5 and all(is_written(line) for line in lines[:-1]):
                self.assertEqual(group_text(read_group(other)), other)
            else:
                self.fails(NoText, read_group, text=other)

    def test_wrong(self):
        for thing in no_groups():
            self.fails(NoGroup, group_text, group=thing)
        for thing in no_texts():
            self.fails(NoText, read_group, text=thing)


class TestOffsetsText(Texts, unittest.TestCase):
    def test_examples(self):
        self.both((0, 3), "0 3", offsets_text, read_offsets, group=GROUP, offsets=(0, 3))
        self.both((3, 5), "3 5", offsets_text, read_offsets, group=GROUP, offsets=(3, 5))
        self.both((0, 0, 0, 0), "0 0 0 0", offsets_text, read_offsets, group=FOUR, offsets=(0, 0, 0, 0))
        self.both((58, 57, 56, 54), "58 57 56 54", offsets_text, read_offsets, group=HUGE, offsets=(58, 57, 56, 54))
        self.both((59, 0, 10, 6), "59 0 10 6", offsets_text, read_offsets, group=CLASSES_3600, offsets=(59, 0, 10, 6))

    def test_all_offsets(self):
        for group in SMALL_GROUPS:
            for offsets in all_offsets(group):
                text = " ".join(str(offset) for offset in offsets)
                self.assertEqual(offsets_text(group, offsets), text)
                self.assertEqual(read_offsets(group, text), offsets)

    def test_all_numbers(self):
        for group in (GROUP, SPAN_420, ((2, (0,)), (2, (0,)))):
            for offsets in product((-1, 0, 1, 2, 3, 4, 5, 6, 7, 10, 59, 60, 61, 600, 10 ** 12), repeat=2):
                text = " ".join(str(offset) for offset in offsets)
                if is_offsets(group, offsets):
                    self.returns(offsets, read_offsets, group=group, text=text)
                else:
                    self.fails(NoText, read_offsets, group=group, text=text)

    def test_wrong_texts(self):
        for text in (
            "", " ", "0", "0 ", " 0", "0 3 ", " 0 3", "0  3", "0 3 0", "03", "0,3", "0, 3", "(0, 3)", "0 03", "00 3", "0 3\n",
            "0\n3", "\n", "-0 3", "0 -3", "+0 3", "0 +3", "0 3.", "0 x", "x", "4 0", "0 6", "0 3 3", "0\t3", "0 3x", "0_0 3",
            "0: 3", "True False", "None None", "0 " + "3" * 1990, "0" * 2000, "0 " * 1000, "4: 0 1\n6: 0 2\n",
        ):
            self.fails(NoText, read_offsets, group=GROUP, text=text)

    def test_spoiled_texts(self):
        written = {f"{one} {other}": (one, other) for one, other in all_offsets(GROUP)}
        self.read_as_written(spoiled("0 3"), written, read_offsets, group=GROUP)

    def test_wrong(self):
        for thing in no_groups():
            self.fails(NoGroup, offsets_text, group=thing, offsets=(0, 0))
            self.fails(NoGroup, offsets_text, group=thing, offsets=None)
            self.fails(NoGroup, read_offsets, group=thing, text="0 0")
            self.fails(NoGroup, read_offsets, group=thing, text=None)
            self.fails(NoGroup, read_offsets, group=thing, text="")
        for group in (GROUP, FOUR, SPAN_423, HUGE):
            for thing in no_offsets(group):
                self.fails(NoOffsets, offsets_text, group=group, offsets=thing)
            for thing in no_texts():
                self.fails(NoText, read_offsets, group=group, text=thing)


class TestHeardText(Texts, unittest.TestCase):
    def test_examples(self):
        line = (-2, 0, 1, -1, 0, 0, 1, -1, -2, 0, -1, -1)
        self.both(line, "x01.001.x0..", heard_text, read_heard, heard=line)
        self.both((-2, -1, 0, 1, 2, 3), "x.0123", heard_text, read_heard, heard=(-2, -1, 0, 1, 2, 3))
        self.both((-1,), ".", heard_text, read_heard, heard=(-1,))
        self.both((-2,), "x", heard_text, read_heard, heard=(-2,))
        self.both((3,), "3", heard_text, read_heard, heard=(3,))
        self.both((3,) * 2000, "3" * 2000, heard_text, read_heard, heard=(3,) * 2000)
        self.assertEqual(len(heard_text((-2, -1) * 2000)), 4000)

    def test_all_short_ones(self):
        for many in (1, 2, 3, 4):
            for line in product(range(-2, 4), repeat=many):
                text = "".join({-1: ".", -2: "x"}.get(what, str(what)) for what in line)
                self.assertEqual(heard_text(line), text)
                self.assertEqual(read_heard(text), line)

    def test_what_heard_returns(self):
        for group in SMALL_GROUPS:
            for offsets in classes(group)[:5]:
                line = heard(group, offsets)
                self.assertEqual(line, plain_heard(group, offsets))
                self.assertEqual(read_heard(heard_text(line)), line)

    def test_wrong_texts(self):
        for text in (
            "", " ", "0 1", " 0", "0 ", "0\n", "\n", "4", "0123x.4", "9", "-1", "-2", "X", "xX", "..,", "..:", "0a", "-", "_",
            "x" * 1999 + "4", " " + "x" * 1999, "x\n" * 900, "None", "(0,)", "0\x00",
        ):
            self.fails(NoText, read_heard, text=text)

    def test_spoiled_texts(self):
        values = dict(zip("x.0123", range(-2, 4)))
        texts = spoiled("x.03")
        written = {text: tuple(values[sign] for sign in text) for text in texts if text and set(text) <= set(values)}
        self.assertGreater(len(written), 20)
        self.read_as_written(texts, written, read_heard)

    def test_wrong(self):
        for thing in no_integers() + [0, -1, 3, 10 ** 12]:
            right = thing in ((0,), (0, 0)) and repr(thing) in ("(0,)", "(0, 0)")
            if right:
                self.returns("0" * len(thing), heard_text, heard=thing)
            else:
                self.fails(NoHeard, heard_text, heard=thing)
        for wrong in (-3, 4, 10 ** 12, -10 ** 12, True, False, None, "0", "x", ".", (0,), [0], {}, NoHeard()):
            for line in ((wrong,), (0, wrong), (wrong, 0), (-1, -2, wrong, 3), (0,) * 3000 + (wrong,)):
                self.fails(NoHeard, heard_text, heard=line)
        for thing in ([0, 1], [-1], "x.0123", {0: 0}, ((0, 1),), ((0,), (1,)), ()):
            self.fails(NoHeard, heard_text, heard=thing)
        for thing in no_texts():
            self.fails(NoText, read_heard, text=thing)


if __name__ == "__main__":
    unittest.main()
