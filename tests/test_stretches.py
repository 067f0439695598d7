"""Stretch: point 4 and the interface of armedexits.programs."""

import operator
import unittest

from armedexits.programs import Stretch

COMPARISONS = {
    "==": operator.eq,
    "<=": operator.le,
    "<": operator.lt,
    ">=": operator.ge,
    ">": operator.gt,
}

STRETCHES = [(first, last) for first in range(7) for last in range(first, 7)]


def as_set(pair):
    return set(range(pair[0], pair[1] + 1))


class Members(unittest.TestCase):
    def check(self, first, last, members, others):
        stretch = Stretch(first, last)
        for p in members:
            with self.subTest(first=first, last=last, p=p):
                self.assertIs(p in stretch, True)
                self.assertIs(p not in stretch, False)
        for p in others:
            with self.subTest(first=first, last=last, p=p):
                self.assertIs(p in stretch, False)
                self.assertIs(p not in stretch, True)

    def test_at_before_and_behind_both_ends(self):
        self.check(2, 5, [2, 3, 4, 5], [0, 1, 6, 7])

    def test_a_single_paragraph(self):
        self.check(3, 3, [3], [2, 4])

    def test_the_first_paragraph(self):
        self.check(0, 0, [0], [-1, 1])
        self.check(0, 2, [0, 1, 2], [-2, -1, 3])

    def test_the_largest_indexes(self):
        self.check(999, 999, [999], [-999, -1, 998, 1000])
        self.check(0, 999, [0, 1, 500, 998, 999], [-1, 1000])

    def test_negative_and_very_large_numbers(self):
        self.check(0, 7, [], [-1, -8, -1000, -(10**30), 10**30, 2**63, 2**64])

    def test_attributes(self):
        for first, last in STRETCHES + [(0, 999), (999, 999)]:
            stretch = Stretch(first, last)
            self.assertEqual((stretch.first, stretch.last), (first, last))


class Pairs(unittest.TestCase):
    def test_every_comparison_of_every_pair_as_sets(self):
        for left in STRETCHES:
            for right in STRETCHES:
                for sign, compare in COMPARISONS.items():
                    with self.subTest(left=left, sign=sign, right=right):
                        expected = compare(as_set(left), as_set(right))
                        self.assertIs(compare(Stretch(*left), Stretch(*right)), expected)

    def test_every_pair_is_unequal_or_equal(self):
        for left in STRETCHES:
            for right in STRETCHES:
                self.assertIs(Stretch(*left) != Stretch(*right), left != right)

    def test_crosses_for_every_pair(self):
        for left in STRETCHES:
            for right in STRETCHES:
                with self.subTest(left=left, right=right):
                    one, two = as_set(left), as_set(right)
                    expected = bool(one & two) and not one <= two and not two <= one
                    self.assertIs(Stretch(*left).crosses(Stretch(*right)), expected)

    def test_named_cases(self):
        cases = {
            "equal": ((1, 3), (1, 3), "== <= >="),
            "nested": ((2, 3), (1, 4), "<= <"),
            "nested at the first end": ((1, 2), (1, 4), "<= <"),
            "nested at the last end": ((3, 4), (1, 4), "<= <"),
            "nesting": ((1, 4), (2, 3), ">= >"),
            "touching": ((0, 1), (2, 3), ""),
            "sharing one": ((0, 2), (2, 4), "crosses"),
            "overlapping": ((0, 3), (1, 4), "crosses"),
            "overlapping, the other way round": ((1, 4), (0, 3), "crosses"),
            "free": ((0, 1), (5, 6), ""),
            "far apart": ((0, 0), (999, 999), ""),
            "in the largest": ((999, 999), (0, 999), "<= <"),
        }
        for name, (left, right, signs) in cases.items():
            with self.subTest(name):
                one, two = Stretch(*left), Stretch(*right)
                found = [sign for sign, compare in COMPARISONS.items() if compare(one, two)]
                if one.crosses(two):
                    found.append("crosses")
                self.assertEqual(sorted(found), sorted(signs.split()))

    def test_a_stretch_with_itself(self):
        for pair in STRETCHES:
            stretch = Stretch(*pair)
            self.assertIs(stretch == stretch, True)
            self.assertIs(stretch <= stretch, True)
            self.assertIs(stretch >= stretch, True)
            self.assertIs(stretch < stretch, False)
            self.assertIs(stretch > stretch, False)
            self.assertIs(stretch.crosses(stretch), False)

    def test_comparing_changes_nothing(self):
        one, two = Stretch(0, 3), Stretch(2, 5)
        for compare in COMPARISONS.values():
            compare(one, two)
        one.crosses(two)
        self.assertEqual((one.first, one.last, two.first, two.last), (0, 3, 2, 5))


if __name__ == "__main__":
    unittest.main()
