"""Parts and filters, in their form and outside it, wherever they may stand."""

import unittest

from tests.helper import ANY, BIG, BLANK, GROW, ability, effect, last, thing

P = (-BIG, BIG)
# For each part what stands behind its number, as least and greatest.
RANGES = {
    0: [(1, BIG)], 1: [], 2: [(0, 2)], 3: [(0, 2)], 4: [(10, BIG)], 5: [(10, BIG)], 6: [(0, 3)], 7: [(0, 3)],
    8: [(0, 14)], 9: [(0, 14)], 10: [], 11: [P, P], 12: [P, P], 14: [],
}
FILTER = [(0, 1), (0, 2), (0, 2), (0, 4), (0, BIG), (0, 15), (0, 1), P]
FULL = [1, 2, 1, 4, 10, 15, 1, -3]


def with_value(row, place, value):
    return row[:place] + [value] + row[place + 1:]


class Parts(unittest.TestCase):
    def accepted(self, part):
        # The copied thing of a part 0 is mostly not there: then another refusal than -2 is due.
        self.assertEqual(last(ability([], part)), [-6] if part[0] == 0 else [0, 0], part)
        expected = [-3] if part[0] == 0 and part[1] != 1 else [0, 1]
        self.assertEqual(last(thing(), effect(0, [1], part)), expected, part)

    def refused(self, part):
        for parts in ([part], [GROW, part], [part, GROW], [GROW] * 3 + [part]):
            self.assertEqual(last(ability([], *parts)), [-2], part)
            self.assertEqual(last(thing(), effect(0, [1], *parts)), [-2], part)

    def test_each_part_at_the_edges_of_its_ranges(self):
        for number, ranges in RANGES.items():
            least = [number] + [low for low, high in ranges]
            self.accepted(least)
            self.accepted([number] + [high for low, high in ranges])
            for place, (low, high) in enumerate(ranges, start=1):
                self.accepted(with_value(least, place, low))
                self.accepted(with_value(least, place, high))
                self.refused(with_value(least, place, low - 1))
                self.refused(with_value(least, place, high + 1))

    def test_numbers_far_outside(self):
        for part in ([0, -BIG], [2, -BIG], [2, BIG], [4, -BIG], [5, 0], [6, BIG], [8, -BIG], [9, BIG]):
            self.refused(part)

    def test_each_part_too_short_and_too_long(self):
        for number, ranges in RANGES.items():
            row = [number] + [low for low, high in ranges]
            self.refused(row + [10])
            self.refused(row + [0] * (50 - len(row)))
            if ranges:
                self.refused(row[:-1])
                self.refused([number])

    def test_parts_of_no_such_number(self):
        for number in (-1, 15, 16, -BIG, BIG, -13, -15):
            for rest in ([], [1], [10], [1, 1], [1, 1] + ANY):
                self.refused([number] + rest)

    def test_an_empty_part(self):
        self.refused([])

    def test_a_counting_part(self):
        for p in P:
            for b in P:
                self.accepted([13, p, b] + ANY)
        for wrong in (-BIG - 1, BIG + 1):
            self.refused([13, wrong, 0] + ANY)
            self.refused([13, 0, wrong] + ANY)

    def test_a_counting_part_too_short_and_too_long(self):
        self.refused([13])
        self.refused([13, 1])
        self.refused([13, 1, 1])
        self.refused([13, 1, 1] + ANY[:-1])
        self.refused([13, 1, 1] + ANY + [0])
        self.refused([13, 1, 1] + ANY + ANY)

    def test_the_form_is_asked_of_parts_beyond_the_fourth(self):
        self.assertEqual(last(ability([], *([GROW] * 4 + [[15]]))), [-2])
        self.assertEqual(last(effect(0, [], *([GROW] * 47 + [[]]))), [-2])
        self.assertEqual(last(effect(0, [], *([GROW] * 48))), [-5])


class Filters(unittest.TestCase):
    def accepted(self, row):
        self.assertEqual(last(ability(row, BLANK)), [0, 0], row)
        self.assertEqual(last(ability([], [13, 1, 1] + row)), [0, 0], row)
        self.assertEqual(last(effect(0, [], [13, 1, 1] + row)), [0, 1], row)

    def refused(self, row):
        self.assertEqual(last(ability(row, BLANK)), [-2], row)
        self.assertEqual(last(ability([], [13, 1, 1] + row)), [-2], row)
        self.assertEqual(last(effect(0, [], [13, 1, 1] + row)), [-2], row)

    def test_filters_at_the_edges_of_their_ranges(self):
        self.accepted([low for low, high in FILTER])
        self.accepted([high for low, high in FILTER])
        for row in (ANY, FULL):
            for place, (low, high) in enumerate(FILTER):
                self.accepted(with_value(row, place, low))
                self.accepted(with_value(row, place, high))
                self.refused(with_value(row, place, low - 1))
                self.refused(with_value(row, place, high + 1))

    def test_everything_between(self):
        for place, most in ((1, 2), (2, 2), (3, 4), (5, 15)):
            for value in range(most + 1):
                self.accepted(with_value(ANY, place, value))

    def test_heads(self):
        for head in (0, 1, 2, 3, 10, 11, 1000, BIG):
            self.accepted(with_value(ANY, 4, head))
        for head in (-BIG, -1, 4, 5, 6, 7, 8, 9, BIG + 1):
            self.refused(with_value(ANY, 4, head))

    def test_the_least_power_where_none_is_named(self):
        for power in (-BIG, -1, 1, BIG):
            self.accepted(ANY[:6] + [0, power])
            self.accepted(ANY[:6] + [1, power])

    def test_too_short_and_too_long(self):
        for length in (1, 2, 7, 9, 16, 50):
            self.refused([0] * length)

    def test_an_empty_group_is_no_filter_of_a_counting_part(self):
        self.assertEqual(last(ability([], BLANK)), [0, 0])
        self.assertEqual(last(ability([], [13, 1, 1])), [-2])


if __name__ == "__main__":
    unittest.main()
