"""Call 0, ability."""

import unittest

from tests.helper import ANY, BLANK, GROW, ability, effect, fade, last, remove, run, thing

COPY = [0, 1]
WRONG = [15]


class Ability(unittest.TestCase):
    def test_numbers_in_order(self):
        found = run(ability([], BLANK), ability(ANY, GROW), ability([], BLANK))
        self.assertEqual(found, [[0, 0], [0, 1], [0, 2]])

    def test_things_and_loose_effects_do_not_number_abilities(self):
        found = run(ability([], BLANK), thing(abilities=[0]), effect(0, [1], GROW), remove(1), fade(1), ability([], GROW))
        self.assertEqual(found[-1], [0, 1])

    def test_one_to_four_parts(self):
        for parts in range(1, 5):
            self.assertEqual(last(ability([], *([GROW] * parts))), [0, 0])

    def test_no_parts_and_five(self):
        for parts in (0, 5, 6, 48):
            self.assertEqual(last(ability([], *([GROW] * parts))), [-5])
            self.assertEqual(last(ability(ANY, *([GROW] * parts))), [-5])

    def test_a_copy_part(self):
        for parts in ([COPY], [GROW, COPY], [COPY, GROW], [GROW, GROW, GROW, COPY], [COPY] * 4):
            self.assertEqual(last(ability([], *parts)), [-6])
            self.assertEqual(last(thing(), ability(ANY, *parts)), [-6])

    def test_a_group_outside_its_form(self):
        for group in ([0], ANY[:7], ANY + [0], [2] + ANY[1:]):
            self.assertEqual(last(ability(group, GROW)), [-2])

    def test_sixteen_and_one_more(self):
        found = run(*([ability([], GROW)] * 18))
        self.assertEqual(found, [[0, number] for number in range(16)] + [[-1], [-1]])

    def test_which_refusal_comes_first(self):
        full = [ability([], GROW)] * 16
        self.assertEqual(last(*full, ability([0], WRONG, COPY, GROW, GROW, GROW)), [-2])
        self.assertEqual(last(*full, ability([0], GROW)), [-2])
        self.assertEqual(last(*full, ability([], WRONG)), [-2])
        self.assertEqual(last(*full, ability([0])), [-2])
        self.assertEqual(last(*full, ability([])), [-1])
        self.assertEqual(last(*full, ability([], *([GROW] * 5))), [-1])
        self.assertEqual(last(*full, ability([], COPY)), [-1])
        self.assertEqual(last(*full, ability([], *([COPY] * 5))), [-1])
        self.assertEqual(last(ability([0])), [-2])
        self.assertEqual(last(ability([0], COPY)), [-2])
        self.assertEqual(last(ability([], *([WRONG] * 5))), [-2])
        self.assertEqual(last(ability([], COPY, WRONG)), [-2])
        self.assertEqual(last(ability([], [0, 0])), [-2])
        self.assertEqual(last(ability([], *([COPY] * 5))), [-5])
        self.assertEqual(last(ability([], GROW, GROW, GROW, GROW, COPY)), [-5])

    def test_a_refused_ability_changes_nothing(self):
        refused = [ability([0], GROW), ability([], WRONG), ability([]), ability([], *([GROW] * 5)), ability([], COPY)]
        found = run(*(refused * 4 + [thing(abilities=[0])] + [ability([], GROW)] * 16 + [ability([], GROW)]))
        self.assertEqual(found[20], [-7])
        self.assertEqual(found[21:], [[0, number] for number in range(16)] + [[-1]])

    def test_a_refused_ability_does_not_touch_things_and_loose_effects(self):
        full = [ability([], GROW)] * 16
        found = run(*(full + [ability([], GROW), thing(abilities=[15]), effect(0, [1], GROW)]))
        self.assertEqual(found[16:], [[-1], [0, 1], [0, 1]])


if __name__ == "__main__":
    unittest.main()
