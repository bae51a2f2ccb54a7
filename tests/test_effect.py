"""Call 3, effect, and call 4, fade."""

import unittest

from tests.helper import ANY, BIG, BLANK, GROW, ability, effect, fade, last, remove, run, thing

WRONG = [15]
LOOSE = effect(0, [], GROW)
TEN = [thing()] * 10


class Effect(unittest.TestCase):
    def test_numbers_in_order(self):
        found = run(thing(), effect(0, [1], GROW), effect(1, [1], BLANK), LOOSE)
        self.assertEqual(found, [[0, 1], [0, 1], [0, 2], [0, 3]])

    def test_things_and_abilities_do_not_number_loose_effects(self):
        self.assertEqual(last(LOOSE, thing(), ability([], GROW), LOOSE), [0, 2])

    def test_side(self):
        for side in (0, 1):
            self.assertEqual(last(effect(side, [], GROW)), [0, 1])
        for side in (-BIG, -1, 2, BIG):
            self.assertEqual(last(effect(side, [], GROW)), [-2])

    def test_lists_of_things(self):
        for row in ([], [1], [10], [10, 1], list(range(1, 11)), list(range(10, 0, -1))):
            self.assertEqual(last(*TEN, effect(0, row, GROW)), [0, 1], row)
        for row in ([0], [-1], [-BIG], [1, 0], [-1, 1], [BIG + 1], [1, 1], [2, 1, 2], [1] * 50):
            self.assertEqual(last(*TEN, effect(0, row, GROW)), [-2], row)

    def test_ten_things_and_one_more(self):
        self.assertEqual(last(*TEN, effect(0, list(range(1, 11)), GROW)), [0, 1])
        self.assertEqual(last(*TEN, effect(0, list(range(1, 12)), GROW)), [-2])
        self.assertEqual(last(*TEN, effect(0, list(range(1, 11)) + [10], GROW)), [-2])
        self.assertEqual(last(*TEN, effect(0, list(range(1, 51)), GROW)), [-2])

    def test_things_that_are_not_there(self):
        for row in ([1], [BIG], [1, 2]):
            self.assertEqual(last(effect(0, row, GROW)), [-3], row)
        for row in ([3], [1, 3], [3, 1], [1, 2, 3], [BIG]):
            self.assertEqual(last(thing(), thing(), effect(0, row, GROW)), [-3], row)
        self.assertEqual(last(thing(), thing(), remove(1), effect(0, [2, 1], GROW)), [-3])
        self.assertEqual(last(thing(), thing(), remove(1), effect(0, [2], GROW)), [0, 1])

    def test_a_thing_to_be_copied(self):
        self.assertEqual(last(thing(), effect(0, [1], [0, 1])), [0, 1])
        self.assertEqual(last(thing(), thing(), effect(0, [1], GROW, [0, 2])), [0, 1])
        self.assertEqual(last(thing(), effect(0, [], [0, 1])), [0, 1])
        self.assertEqual(last(thing(), effect(0, [1], [0, 1], [0, 1])), [0, 1])

    def test_a_thing_to_be_copied_that_is_not_there(self):
        self.assertEqual(last(effect(0, [], [0, 1])), [-3])
        self.assertEqual(last(thing(), effect(0, [1], [0, 2])), [-3])
        self.assertEqual(last(thing(), effect(0, [1], [0, BIG])), [-3])
        self.assertEqual(last(thing(), effect(0, [1], GROW, [0, 1], BLANK, [0, 2])), [-3])
        self.assertEqual(last(thing(), thing(), remove(2), effect(0, [1], [0, 2])), [-3])

    def test_numbers_in_other_parts_are_no_things(self):
        self.assertEqual(last(effect(0, [], [2, 2], [4, 1000], [12, 5, 5], [13, 4, 4] + ANY)), [0, 1])

    def test_one_to_four_parts(self):
        for parts in range(1, 5):
            self.assertEqual(last(effect(0, [], *([GROW] * parts))), [0, 1])

    def test_no_parts_and_five(self):
        for parts in (0, 5, 6, 48):
            self.assertEqual(last(thing(), effect(0, [1], *([GROW] * parts))), [-5])

    def test_ten_and_one_more(self):
        self.assertEqual(run(*([LOOSE] * 12)), [[0, number] for number in range(1, 11)] + [[-1], [-1]])

    def test_room_again_behind_a_fade(self):
        found = run(*([LOOSE] * 11 + [fade(3), LOOSE, LOOSE, fade(11), fade(1), LOOSE, LOOSE, LOOSE]))
        self.assertEqual(found[10:], [[-1], [0], [0, 11], [-1], [0], [0], [0, 12], [0, 13], [-1]])

    def test_a_removed_thing_leaves_the_loose_effect_there(self):
        found = run(*([thing(), thing()] + [effect(0, [1], [0, 2])] * 10 + [remove(1), remove(2), LOOSE, fade(10), LOOSE]))
        self.assertEqual(found[12:], [[0], [0], [-1], [0], [0, 11]])

    def test_which_refusal_comes_first(self):
        full = [LOOSE] * 10
        for first in ([], full):
            self.assertEqual(last(*first, effect(2, [5])), [-2])
            self.assertEqual(last(*first, effect(0, [0])), [-2])
            self.assertEqual(last(*first, effect(0, [5, 5], GROW)), [-2])
            self.assertEqual(last(*first, effect(0, [5], *([WRONG] * 5))), [-2])
            self.assertEqual(last(*first, effect(0, [5], WRONG)), [-2])
            self.assertEqual(last(*first, effect(0, [], [0, 5], [0, 0])), [-2])
        self.assertEqual(last(*full, effect(0, [])), [-1])
        self.assertEqual(last(*full, effect(0, [], *([GROW] * 5))), [-1])
        self.assertEqual(last(*full, effect(0, [5], GROW)), [-1])
        self.assertEqual(last(*full, effect(0, [], [0, 5])), [-1])
        self.assertEqual(last(effect(0, [5])), [-5])
        self.assertEqual(last(effect(0, [5], *([GROW] * 5))), [-5])
        self.assertEqual(last(effect(0, [], *([[0, 5]] * 5))), [-5])

    def test_a_refused_effect_changes_nothing(self):
        refused = [effect(2, [], GROW), effect(0, [], WRONG), effect(0, []), effect(0, [1], GROW), effect(0, [], [0, 1])]
        found = run(*(refused * 3 + [LOOSE] * 10 + [LOOSE] * 2 + [fade(11), fade(10), LOOSE, thing(), ability([], GROW)]))
        self.assertEqual(found[:15], [[-2], [-2], [-5], [-3], [-3]] * 3)
        self.assertEqual(found[15:25], [[0, number] for number in range(1, 11)])
        self.assertEqual(found[25:], [[-1], [-1], [-4], [0], [0, 11], [0, 1], [0, 0]])


class Fade(unittest.TestCase):
    def test_numbers_are_never_given_twice(self):
        found = run(LOOSE, fade(1), LOOSE, LOOSE, fade(3), LOOSE, fade(2), fade(4), LOOSE)
        self.assertEqual(found, [[0, 1], [0], [0, 2], [0, 3], [0], [0, 4], [0], [0], [0, 5]])

    def test_no_such_loose_effect(self):
        for e in (-BIG, -1, 0, 1, BIG):
            self.assertEqual(last(fade(e)), [-4], e)
        for e in (-BIG, -1, 0, 3, BIG):
            self.assertEqual(last(LOOSE, LOOSE, fade(e)), [-4], e)

    def test_a_thing_of_that_number_is_no_loose_effect(self):
        self.assertEqual(run(thing(), fade(1), LOOSE, fade(1), remove(1)), [[0, 1], [-4], [0, 1], [0], [0]])

    def test_a_loose_effect_fades_once(self):
        self.assertEqual(run(LOOSE, fade(1), fade(1)), [[0, 1], [0], [-4]])

    def test_only_the_one_named_is_no_more(self):
        self.assertEqual(run(LOOSE, LOOSE, LOOSE, fade(2), fade(1), fade(2), fade(3))[3:], [[0], [0], [-4], [0]])

    def test_a_refused_fade_changes_nothing(self):
        found = run(*([LOOSE] * 10 + [fade(11), fade(0), fade(-1), LOOSE, fade(10), LOOSE]))
        self.assertEqual(found[10:], [[-4], [-4], [-4], [-1], [0], [0, 11]])


if __name__ == "__main__":
    unittest.main()
