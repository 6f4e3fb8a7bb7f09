"""Points 3 to 6, and the section of texts: how ranges, rules and systems are written."""

import unittest

from tests.making import made_systems
from tests.samples import FAR, busy, climb
from tightranges.errors import InvalidRange
from tightranges.moves import follows
from tightranges.systems import System
from tightranges.texts import show_range, show_rule, show_system

ALL = (None, None)
NINES = "9" * 31
ONE_FAR = "1" + "0" * 31


class Examples(unittest.TestCase):
    def test_of_the_document(self):
        shown = [
            show_range((None, -2)), show_range(None),
            show_rule(("step", "x", "y", 3, -2, (2, 4), (("z", (50, None)), ("w", (None, 3))))),
            show_rule(("set", "x", (None, None), ())), show_system(System(["y", "x"], [])),
            show_system(System(["x"], [("set", "x", (0, 5), ()), ("step", "x", "x", 1, 0, (None, None), ())])),
        ]
        self.assertEqual(shown, [
            "..-2", "none", "x from 3 y - 2 in 2..4 when z in 50.., w in ..3", "x is ..", "x y: -",
            "x: x is 0..5; x from 1 x + 0",
        ])


class ShowRange(unittest.TestCase):
    def test_ranges(self):
        for one, text in [
            (None, "none"), (ALL, ".."), ((None, 0), "..0"), ((0, None), "0.."), ((0, 0), "0..0"), ((1, 2), "1..2"),
            ((-1, 1), "-1..1"), ((-7, -5), "-7..-5"), ((None, -1), "..-1"), ((-1, None), "-1.."),
            ((10, 100), "10..100"), ((-FAR, FAR), f"-{ONE_FAR}..{ONE_FAR}"), ((FAR - 1, FAR), f"{NINES}..{ONE_FAR}"),
            ((1 - FAR, None), f"-{NINES}.."), ((None, FAR), f"..{ONE_FAR}"),
        ]:
            self.assertEqual(show_range(one), text)
            self.assertEqual(show_range(one=one), text)

    def test_numbers_of_every_length(self):
        for length in range(1, 400):
            one, text = 10 ** (length - 1), "1" + "0" * (length - 1)
            self.assertEqual(show_range((-one, one)), f"-{text}..{text}")
            one, text = 10 ** length - 1, "9" * length
            self.assertEqual(show_range((-one, one)), f"-{text}..{text}")

    def test_numbers_too_long_for_python_to_write_at_once(self):
        for length in [4299, 4300, 4301, 9000]:
            one, text = 7 * 10 ** length + 5, "7" + "0" * (length - 1) + "5"
            self.assertEqual(show_range((-one, one)), f"-{text}..{text}")

    def test_ranges_that_long_moves_lead_to(self):
        system = System(["x"], [("set", "x", (1, 1), ()), ("step", "x", "x", 8, 0, ALL, ())])
        ranges = follows(system, [("rule", 0)] + [("round", (1,) * 12, "high", 200)] * 2)
        text = show_range(ranges["x"])
        self.assertEqual(text[:3], "1..")
        value = 0
        for at in range(3, len(text), 100):
            part = text[at:at + 100]
            value = value * 10 ** len(part) + int(part)
        self.assertEqual(value, 8 ** 4800)

    def test_range_check(self):
        for one in [(1, 0), (0, -1), (FAR, FAR - 1), (5, -5), (-5, -6)]:
            with self.assertRaises(InvalidRange) as caught:
                show_range(one)
            self.assertEqual(caught.exception.value, one)


class ShowRule(unittest.TestCase):
    def test_sets(self):
        for rule, text in [
            (("set", "x", (0, 5), ()), "x is 0..5"),
            (("set", "abcdefgh", ALL, ()), "abcdefgh is .."),
            (("set", "y", (None, -3), ()), "y is ..-3"),
            (("set", "y", (-FAR, None), ()), f"y is -{ONE_FAR}.."),
            (("set", "x", (0, 0), (("y", (1, 2)),)), "x is 0..0 when y in 1..2"),
            (("set", "x", ALL, (("x", ALL),)), "x is .. when x in .."),
            (("set", "x", (1, 1), (("x", (None, -1)), ("x", (7, None)))), "x is 1..1 when x in ..-1, x in 7.."),
        ]:
            self.assertEqual(show_rule(rule), text)
            self.assertEqual(show_rule(rule=rule), text)

    def test_steps(self):
        for rule, text in [
            (("step", "x", "y", 1, 0, ALL, ()), "x from 1 y + 0"),
            (("step", "x", "x", -1, 1, ALL, ()), "x from -1 x + 1"),
            (("step", "x", "y", 9, -1, ALL, ()), "x from 9 y - 1"),
            (("step", "x", "y", -9, FAR, ALL, ()), f"x from -9 y + {ONE_FAR}"),
            (("step", "x", "y", -9, -FAR, ALL, ()), f"x from -9 y - {ONE_FAR}"),
            (("step", "x", "y", 1, 0, (0, 0), ()), "x from 1 y + 0 in 0..0"),
            (("step", "x", "y", 1, 0, (None, 0), ()), "x from 1 y + 0 in ..0"),
            (("step", "x", "y", 1, 0, (0, None), ()), "x from 1 y + 0 in 0.."),
            (("step", "x", "y", 2, -5, (-3, FAR), ()), f"x from 2 y - 5 in -3..{ONE_FAR}"),
            (("step", "x", "y", 1, 0, ALL, (("z", ALL),)), "x from 1 y + 0 when z in .."),
            (("step", "a", "b", 1, -2, (3, 4), (("c", (5, 6)), ("d", (-8, -7)))),
             "a from 1 b - 2 in 3..4 when c in 5..6, d in -8..-7"),
            (("step", "x", "y", FAR, 3, ALL, ()), f"x from {ONE_FAR} y + 3"),
        ]:
            self.assertEqual(show_rule(rule), text)

    def test_names_like_the_words(self):
        self.assertEqual(
            show_rule(("step", "is", "from", 3, 4, (1, 2), (("when", (5, None)), ("in", ALL)))),
            "is from 3 from + 4 in 1..2 when when in 5.., in in ..",
        )
        self.assertEqual(show_rule(("set", "none", ALL, (("in", (None, 0)),))), "none is .. when in in ..0")

    def test_more_than_two_conditions(self):
        conditions = tuple((name, (0, None)) for name in "abcd")
        text = "x is .. when a in 0.., b in 0.., c in 0.., d in 0.."
        self.assertEqual(show_rule(("set", "x", ALL, conditions)), text)


class ShowSystem(unittest.TestCase):
    def test_systems(self):
        for system, text in [
            (System(["x"], []), "x: -"),
            (System(["b", "c", "a", "aa"], []), "a aa b c: -"),
            (System(["x"], [("set", "x", ALL, ())]), "x: x is .."),
            (climb(), "x y: x is 0..0; x from 1 x + 3 in ..100 when y in 2.."),
            (climb().mirrored(), "x y: x is 0..0; x from 1 x - 3 in -100.. when y in ..-2"),
        ]:
            self.assertEqual(show_system(system), text)
            self.assertEqual(show_system(system=system), text)

    def test_every_form(self):
        self.assertEqual(show_system(busy()).split("; "), [
            "a b c: a is -3..4",
            "b is .. when a in 2..",
            "a from -2 b + 7 in -5..9 when c in ..3, a in -6..6",
            "c from 3 c - 1 when c in 0..0, c in ..",
            f"b from 9 a + {ONE_FAR} in ..{ONE_FAR}",
            f"c is -{ONE_FAR}.. when b in -{ONE_FAR}..{ONE_FAR}",
            f"c from -9 a - {ONE_FAR} in -{ONE_FAR}.. when b in 1..1",
        ])

    def test_rules_one_behind_the_other(self):
        for system in made_systems(100):
            texts = [show_rule(rule) for rule in system.rules]
            self.assertEqual(show_system(system), f"{' '.join(system.names)}: {'; '.join(texts)}")

    def test_a_shown_system_stays(self):
        system = busy()
        show_system(system)
        self.assertEqual(system, busy())


if __name__ == "__main__":
    unittest.main()
