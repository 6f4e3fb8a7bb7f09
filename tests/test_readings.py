"""Points 3 to 6, and the section of readings: which texts are read, and as what."""

import unittest

from tests.grammar import is_text_of_range, is_text_of_rule, is_text_of_system
from tests.making import made_systems
from tests.samples import FAR, busy, climb, small
from tightranges.errors import RangeError, Unreadable
from tightranges.readings import read_range, read_rule, read_system
from tightranges.systems import System
from tightranges.texts import show_range, show_rule, show_system

ALL = (None, None)
MOST = "9" * 45
SIGNS = [chr(code) for code in range(ord(" "), ord("~") + 1)]
RANGES = [
    None, ALL, (0, 0), (None, 0), (0, None), (-1, 1), (10, 12), (-12, -10), (None, -5), (-5, None), (9, 10), (-10, -9),
    (-FAR, FAR), (FAR, None), (None, -FAR), (int(MOST), None), (-int(MOST), int(MOST)),
]
RULES = [
    ("set", "x", (0, 5), ()),
    ("set", "x", ALL, (("y", (-1, None)),)),
    ("step", "x", "y", 1, 0, ALL, ()),
    ("step", "x", "y", -3, -2, (2, 14), (("z", (50, None)), ("w", (None, 3)))),
    ("step", "x", "x", 10, 20, (None, 0), (("x", ALL),)),
    ("step", "in", "when", 9, -10, (-1, None), (("from", (1, 1)), ("is", (0, 0)))),
]
# Texts of no range; with a name and a word before them also texts of no rule.
NO_RANGES = [
    "", " ", ".", "...", "....", "0", "-5", "0.0", "0...1", "0....1", ". .", "0 ..1", "0.. 1", " 0..1", "0..1 ",
    "0 .. 1", "1..0", "0..-1", "-1..-2", "00..1", "0..00", "0..01", "01..2", "-0..1", "0..-0", "-0..", "..-0", "-00..",
    "-01..", "..-01", "+1..2", "1..+2", "--1..2", "-..2", "1..-", "1-..2", "a..b", "x", "None", "NONE", "none ",
    " none", "nonee", "non", "none..", "..none", "..,", ",..", "0x1..2", "1_0..20", "1,0..20", "1e3..", "1:2", "(0, 1)",
    f"{MOST}9..", f"..{MOST}0", f"-{MOST}9..", "1" + "0" * 45 + "..", ".." + "1" * 5000, "0" * 46 + "..",
    "\u0661..\u0662", "..\u00b2", "0..1\n", "\n..", "0\u2025 1",
]
NO_RULES = [
    "", " ", "x", "x ", "x is", "x is ", " x is ..", "x is .. ", "x  is ..", "x is  ..", "x is none", "x is 0", "x is 1..0",
    "is ..", "x..", "x from", "x from 1", "x from 1 y", "x from 1 y +", "x from 1 y + ", "x from 1 y 0", "x from 1 + 0",
    "x from y + 0", "x from 0 y + 1", "x from -0 y + 1", "x from 00 y + 1", "x from 01 y + 1", "x from +1 y + 1",
    "x from - 1 y + 1", "x from 1 y + -1", "x from 1 y - -1", "x from 1 y - 0", "x from 1 y -0", "x from 1 y +0",
    "x from 1 y + 00", "x from 1 y + 01", "x from 1 y - 01", "x from 1 y * 2", "x from 1 y +- 2", "x from 1 y -1",
    "x from 1 y + 1 in ..", "x from 1 y + 1 in", "x from 1 y + 1 in ", "x from 1 y + 1 in none", "x from 1 y + 1 in 1..0",
    "x from 1 y + 1 in .. when y in 0..", "x from 1 y + 1 0..2", "x from 1 y + 1 is 0..2", "x from 1y + 1", "x from 1.. y + 1",
    "x from 1 y + 1 in 0..2 in 0..2", "x from 1 y + 1 when y in 0.. in 0..2", "x is 0..2 in 0..2", "x is 0..2 0..2",
    "x is .. when", "x is .. when ", "x is .. when y", "x is .. when y in", "x is .. when y in ", "x is .. when y in none",
    "x is .. when y in 1..0", "x is .. when y is 0..", "x is .. when y in 0..,", "x is .. when y in 0.., ",
    "x is .. when y in 0..,z in 0..", "x is .. when y in 0.. z in 0..", "x is .. when y in 0.. , z in 0..",
    "x is .. when y in 0..,  z in 0..", "x is .. when , y in 0..", "x is .. when y in 0.., when z in 0..",
    "x is .. when y in 0.. when z in 0..", "x is .. when when y in 0..", "x is .., y in 0..", "x is .. y in 0..",
    "x is .. when y in 0.. in 0..", "x is ..;", "x is ..; x is ..", "x: x is ..", "-", "X is ..", "x1 is ..", " is ..",
    "abcdefghi is ..", "x from 1 Y + 0", "x from 1 abcdefghi + 0", "x from 1 y + 0 when abcdefghi in ..",
    "x from 1 y + 0 when  in ..", "x from 1  + 0", " from 1 y + 0", "x is .. when Y in ..", "x Is ..", "x FROM 1 y + 0",
    "x is .. When y in ..", "x from 1 y + 0 In 0..1", "x\tis ..", "x is ..\n", "\u00e9 is ..", "x from \u0661 y + 0",
    f"x from {MOST}9 y + 1", f"x from 1 y + {MOST}9", f"x from 1 y - {MOST}9", f"x is {MOST}9..", "x from 1 y + " + "1" * 5000,
]
NO_SYSTEMS = [
    "", "x", "x:", "x: ", "x:-", "x : -", "x -", ": -", " : -", "x:  -", "x: - ", " x: -", "x : x is ..", "x: -;", "x: -; -",
    "x: --", "x: -; x is ..", "x: x is ..; -", "x: x is ..;", "x: x is ..; ", "x: ; x is ..", "x: x is ..;x is ..",
    "x: x is ..;  x is ..", "x: x is .. ; x is ..", "x: x is .., x is ..", "x: x is ..: -", "x: x: -", "x; -", "x  y: -",
    "y x: -", "x x: -", "x, y: -", "b a c: -", "x Y: -", "X: -", "x1: -", "x y z y: -", "abcdefghi: -", "aa a: -",
    "x: y is ..", "x: x from 1 y + 0", "x: y from 1 x + 0", "x: x is .. when y in ..", "x: x is 1..0", "x: x from 0 x + 0",
    "x: x is none", "x: x is .. when x in none", "x: x from 1 x + 0 in ..", "x: x is -0..", f"x: x is {MOST}9..",
    "x: x is 0..1; y is 0..1", "x: x is 0..1; x is 1..0", "x is ..", "x: -\n", "x:\n-", "none", "..", "-",
]


def words_exchanged(text):
    """The text with words left out, put in twice or exchanged."""
    words = text.split(" ")
    more = ["is", "from", "in", "when", "+", "-", "..", "0", "1..", "none", "x", "y,", ""]
    changed = []
    for at, word in enumerate(words):
        changed.append(words[:at] + words[at + 1:])
        changed += [words[:at] + [other] + words[at + 1:] for other in more]
        changed += [words[:at] + [other] + words[at:] for other in more + [word]]
        for other in range(at):
            changed.append([*words[:other], word, *words[other + 1:at], words[other], *words[at + 1:]])
    return [" ".join(one) for one in changed]


def signs_otherwise(text):
    """The text with one sign left out, put in, taken for another one, or exchanged with the next one."""
    changed = [text[:at] + text[at + 1] + text[at] + text[at + 2:] for at in range(len(text) - 1)]
    changed += [text[:at] + text[at + 1:] for at in range(len(text))]
    changed += [text[:at] + sign + text[at + 1:] for at in range(len(text)) for sign in SIGNS]
    return changed + [text[:at] + sign + text[at:] for at in range(len(text) + 1) for sign in SIGNS]


class ReadingTest(unittest.TestCase):
    def refuses(self, read, text):
        with self.assertRaises(RangeError) as caught:
            read(text)
        self.assertIs(type(caught.exception), Unreadable, text)
        self.assertEqual(caught.exception.value, text)

    def reads_exactly(self, read, show, is_text, texts):
        """Reads what the grammar has, as that of which it is the text; refuses all other texts."""
        read_at_all = 0
        for text in sorted(set(texts)):
            if is_text(text):
                self.assertEqual(show(read(text)), text)
                read_at_all += 1
            else:
                self.refuses(read, text)
        self.assertGreater(read_at_all, 0)


class Examples(unittest.TestCase):
    def test_of_the_document(self):
        read = [read_range("..-2"), read_range("none"), read_rule("x from 3 y - 2 in 2..4"), read_system("x y: -").names]
        self.assertEqual(read, [(None, -2), None, ("step", "x", "y", 3, -2, (2, 4), ()), ["x", "y"]])


class ReadRange(ReadingTest):
    def test_ranges(self):
        for text, one in [
            ("none", None), ("..", ALL), ("..0", (None, 0)), ("0..", (0, None)), ("0..0", (0, 0)), ("-1..-1", (-1, -1)),
            ("-5..12", (-5, 12)), ("10..", (10, None)), ("..-10", (None, -10)), (f"{10 ** 31}..", (10 ** 31, None)),
            (f"-{MOST}..{MOST}", (1 - 10 ** 45, 10 ** 45 - 1)), ("1" + "0" * 44 + "..", (10 ** 44, None)),
        ]:
            self.assertEqual(read_range(text), one)
            self.assertEqual(read_range(text=text), one)

    def test_shown_ranges(self):
        for one in RANGES:
            self.assertEqual(read_range(show_range(one)), one)

    def test_other_texts(self):
        for text in NO_RANGES:
            self.refuses(read_range, text)

    def test_numbers_beyond_45_digits(self):
        for one in [(10 ** 45, None), (None, 10 ** 45), (-10 ** 45, 0), (0, 10 ** 4300), (-10 ** 9000, None)]:
            self.refuses(read_range, show_range(one))

    def test_signs_otherwise(self):
        texts = [text for one in RANGES[:12] for text in signs_otherwise(show_range(one))]
        texts += ["".join([a, b, c, d]) for a in "-0." for b in "-01." for c in "-01." for d in "-01."]
        self.reads_exactly(read_range, show_range, is_text_of_range, texts)


class ReadRule(ReadingTest):
    def test_rules(self):
        for text, rule in [
            ("x is 0..5", ("set", "x", (0, 5), ())),
            ("x is ..", ("set", "x", ALL, ())),
            ("abcdefgh is ..-3 when z in ..", ("set", "abcdefgh", (None, -3), (("z", ALL),))),
            ("x from 1 y + 0", ("step", "x", "y", 1, 0, ALL, ())),
            ("x from -9 x - 1", ("step", "x", "x", -9, -1, ALL, ())),
            ("x from 2 y + 10 in 0..", ("step", "x", "y", 2, 10, (0, None), ())),
            ("a from 1 b - 2 in ..4 when c in 5..6, d in -8..-7",
             ("step", "a", "b", 1, -2, (None, 4), (("c", (5, 6)), ("d", (-8, -7))))),
            ("x from 1 y + 0 when z in 3..", ("step", "x", "y", 1, 0, ALL, (("z", (3, None)),))),
            (f"x from {MOST} y - {MOST}", ("step", "x", "y", int(MOST), -int(MOST), ALL, ())),
            (f"x from -{MOST} y + {MOST}", ("step", "x", "y", -int(MOST), int(MOST), ALL, ())),
        ]:
            self.assertEqual(read_rule(text), rule)
            self.assertEqual(read_rule(text=text), rule)

    def test_names_like_the_words(self):
        for text, rule in [
            ("is is ..", ("set", "is", ALL, ())),
            ("from is 0.. when when in 1..", ("set", "from", (0, None), (("when", (1, None)),))),
            ("none from 3 none + 4", ("step", "none", "none", 3, 4, ALL, ())),
            ("in from 3 in + 4 in 2..4 when in in 5.., when in ..",
             ("step", "in", "in", 3, 4, (2, 4), (("in", (5, None)), ("when", ALL)))),
            ("when from 1 when + 0 when when in 0..", ("step", "when", "when", 1, 0, ALL, (("when", (0, None)),))),
        ]:
            self.assertEqual(read_rule(text), rule)

    def test_more_than_two_conditions(self):
        rule = ("set", "x", ALL, tuple((name, (0, None)) for name in "abcdef"))
        self.assertEqual(read_rule(show_rule(rule)), rule)

    def test_shown_rules(self):
        for rule in RULES + [rule for system in made_systems(200) for rule in system.rules]:
            self.assertEqual(read_rule(show_rule(rule)), rule)

    def test_other_texts(self):
        for text in NO_RULES + [f"x is {text}" for text in NO_RANGES]:
            self.refuses(read_rule, text)
        for text in NO_RANGES:
            self.refuses(read_rule, f"x from 1 y + 0 in {text}")
            self.refuses(read_rule, f"x is .. when y in {text}")
            self.refuses(read_rule, f"x is .. when y in {text}, z in 0..")

    def test_signs_otherwise(self):
        texts = [text for rule in RULES for text in signs_otherwise(show_rule(rule))]
        self.reads_exactly(read_rule, show_rule, is_text_of_rule, texts)

    def test_words_exchanged(self):
        texts = [text for rule in RULES for text in words_exchanged(show_rule(rule))]
        self.reads_exactly(read_rule, show_rule, is_text_of_rule, texts)


class ReadSystem(ReadingTest):
    def test_systems(self):
        for text, system in [
            ("x: -", System(["x"], [])),
            ("a b c: -", System(["c", "b", "a"], [])),
            ("a aa ab b: -", System(["a", "aa", "ab", "b"], [])),
            ("x: x is ..", System(["x"], [("set", "x", ALL, ())])),
            ("x y: x is 0..0; x from 1 x + 3 in ..100 when y in 2..", climb()),
            ("in is when: is from 1 in + 0; when is 0..", System(["when", "is", "in"], [
                ("step", "is", "in", 1, 0, ALL, ()), ("set", "when", (0, None), ()),
            ])),
        ]:
            self.assertEqual(read_system(text), system)
            self.assertEqual(read_system(text=text), system)

    def test_shown_systems(self):
        for system in [busy(), busy().mirrored(), climb(), small()] + made_systems(200):
            self.assertEqual(read_system(show_system(system)), system)

    def test_more_names_and_rules_than_usual(self):
        system = System(list("abcdefghijkl"), [("set", "a", (0, 0), ())] * 40)
        self.assertEqual(read_system(show_system(system)), system)

    def test_other_texts(self):
        for text in NO_SYSTEMS:
            self.refuses(read_system, text)
        # The text of no rule may be that of none at all, or of two of them.
        texts = [f"x y z: {text}" for text in NO_RULES] + [f"x y z: x is ..; {text}; y is .." for text in NO_RULES]
        self.reads_exactly(read_system, show_system, is_text_of_system, texts)

    def test_signs_otherwise(self):
        texts = ["x: -", "x y z: -", "a b: a is ..; b from -1 a + 0 in 0.. when a in ..5"]
        texts = [other for text in texts for other in signs_otherwise(text)]
        self.reads_exactly(read_system, show_system, is_text_of_system, texts)

    def test_words_exchanged(self):
        texts = [show_system(climb()), "x y z: y is 0..3 when x in 1.., z in ..; z from 2 y - 7"]
        texts = [other for text in texts for other in words_exchanged(text)]
        self.reads_exactly(read_system, show_system, is_text_of_system, texts)


if __name__ == "__main__":
    unittest.main()
