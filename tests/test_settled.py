"""What an effect applies to is settled when it's applied first; and when an effect isn't there any more."""

import unittest

from tests.helper import (
    ANY, BLANK, GROW, ability, effect, everything, fit, fresh, last, look, needs, order, remove, run, thing, touched, which,
    why,
)


class Settled(unittest.TestCase):
    def test_in_later_layers_though_it_would_not_fit_any_more(self):
        calls = [ability(fit(head=1), [3, 0], GROW), thing(kinds=[0], abilities=[0]), thing(), thing(kinds=[0, 1])]
        self.assertEqual(last(*calls, everything()), [0, 1, 0, 1, 1, 2, 0, 0, 0, 3, 0, 1, 1])
        self.assertEqual(run(*calls, touched(1, 0), why(3), which(0, fit(head=1)))[4:],
                         [[0, 3, 1, 3], [0, 3, 1, 0, 7, 1, 0], [0]])

    def test_in_later_layers_though_others_would_fit(self):
        calls = [ability(fit(keyword=1), [4, 10], GROW), thing(keywords=[1], abilities=[0]), thing(), effect(0, [2], [8, 1])]
        self.assertEqual(run(*calls, touched(1, 0), everything())[4:], [[0, 3, 1], [0, 1, 0, 1, 1, 2, 0, 0, 0]])

    def test_by_the_side_at_that_time(self):
        # Settled in layer 2 on side 1's things, which aren't side 1's any more then.
        calls = [ability(fit(whose=2), [1], GROW), thing(0, abilities=[0]), thing(1), thing(0)]
        self.assertEqual(run(*calls, touched(1, 0), everything())[4:],
                         [[0, 2, 2], [0, 1, 0, 0, 0, 2, 0, 1, 1, 3, 0, 0, 0]])
        # In layer 3 by the side that layer 2 left.
        calls = [ability(fit(whose=1), [4, 10]), thing(0, abilities=[0]), thing(0), thing(1), effect(1, [1], [1])]
        self.assertEqual(last(*calls, touched(1, 0)), [0, 3, 1, 3])

    def test_a_counting_part_is_read_anew_though_the_things_are_settled(self):
        counting = [13, 1, 0] + fit(keyword=1)
        calls = [ability(fit(head=1), [3, 0], counting), thing(kinds=[0], abilities=[0]), thing(), effect(0, [2], [8, 1])]
        self.assertEqual(run(*calls, touched(1, 0), everything())[4:], [[0, 3, 1], [0, 1, 0, 1, 0, 2, 0, 0, 0]])

    def test_a_counting_part_is_read_by_the_side_at_that_moment(self):
        calls = [ability([], [13, 1, 0] + fit(whose=1)), thing(0, abilities=[0]), thing(0), thing(0), effect(1, [1], [1])]
        self.assertEqual(last(*calls, everything())[3], 1)

    def test_one_that_settled_on_no_thing_stays_so(self):
        calls = [ability(fit(keyword=1), [4, 10], GROW), thing(abilities=[0]), thing(), effect(0, [2], [8, 1])]
        found = run(*calls, touched(1, 0), order(3), order(7), everything(), why(2), needs(7))
        self.assertEqual(found[4:], [[0, 3], [0, 1, 0], [0, 1, 0], [0, 1, 0, 0, 0, 2, 0, 0, 0], [0, 5, 0, 1], [0]])

    def test_one_that_settled_on_no_thing_goes_on_though_its_thing_is_blank(self):
        calls = [ability(fit(keyword=1), [4, 10], GROW), thing(abilities=[0]), effect(0, [1], BLANK)]
        self.assertEqual(run(*calls, order(7), touched(1, 0))[3:], [[0, 1, 0], [0, 3]])

    def test_a_loose_effect_without_things(self):
        calls = [thing(), effect(0, [], [4, 10], GROW)]
        self.assertEqual(run(*calls, order(3), order(7), touched(0, 1), everything())[2:],
                         [[0, 0, 1], [0, 0, 1], [0, 3], [0, 1, 0, 0, 0]])

    def test_each_call_reckons_anew(self):
        calls = [ability(fit(head=1), GROW), thing(kinds=[0], abilities=[0]), everything(), thing(kinds=[0]), everything(),
                 remove(1), everything()]
        self.assertEqual(run(*calls)[2::2], [[0, 1, 0, 1, 1], [0, 1, 0, 1, 1, 2, 0, 1, 1], [0, 2, 0, 0, 0]])


class Blank(unittest.TestCase):
    def test_one_that_was_not_applied_yet_falls_out(self):
        calls = [ability(ANY, GROW), thing(abilities=[0]), thing(), effect(0, [1], BLANK)]
        self.assertEqual(run(*calls, order(7), needs(7), everything(), touched(1, 0))[4:],
                         [[0], [0], [0, 1, 0, 0, 0, 2, 0, 0, 0], [-4]])

    def test_one_that_was_applied_goes_on(self):
        calls = [ability(ANY, [4, 10], GROW), thing(abilities=[0]), thing(), effect(0, [1], BLANK)]
        self.assertEqual(run(*calls, order(7), everything(), look(1))[4:],
                         [[0, 1, 0], [0, 1, 0, 1, 1, 2, 0, 1, 1], [0, 0, 1, 1, 0, 0, 0, 0, 10]])

    def test_one_of_two_abilities_was_applied(self):
        calls = [ability([], GROW), ability([], [4, 10], [12, 5, 5]), thing(abilities=[0, 1]), effect(0, [1], BLANK)]
        self.assertEqual(run(*calls, order(7), everything())[4:], [[0, 1, 1], [0, 1, 0, 5, 5]])

    def test_falls_out_of_the_layer_in_which_its_thing_becomes_blank(self):
        # Each makes the other's thing blank: a ring, the older one is applied, the other isn't there then.
        calls = [ability(fit(other=1), BLANK), thing(abilities=[0]), thing(abilities=[0])]
        self.assertEqual(run(*calls, needs(5), order(5), look(1), look(2))[3:],
                         [[0, 1, 0, 2, 0, 2, 0, 1, 0], [0, 1, 0], [0, 0, 0, 0, 0, 0, 0, 1], [0] * 8])
        self.assertEqual(last(*calls, fresh(1), order(5)), [0, 2, 0])

    def test_applied_first_in_layer_5_itself(self):
        # Applied in layer 5 ahead of becoming blank there: it goes on in layer 7.
        told = [ability([], [8, 1], GROW), ability(fit(keyword=1), BLANK)]
        calls = [*told, thing(abilities=[0]), thing(abilities=[1])]
        self.assertEqual(last(*calls, needs(5)), [0, 2, 0, 1, 0])
        self.assertEqual(run(*calls, order(5), order(7), look(1))[4:],
                         [[0, 1, 0, 2, 0], [0, 1, 0], [0, 0, 1, 1, 0, 0, 0, 0]])

    def test_a_keyword_given_behind_it_does_not_bring_abilities_back(self):
        calls = [ability([], GROW), thing(abilities=[0]), effect(0, [1], BLANK, [8, 1])]
        self.assertEqual(last(*calls, look(1)), [0, 0, 0, 0, 0, 0, 2, 0])

    def test_other_things_with_the_ability_keep_it(self):
        calls = [ability([], GROW), thing(abilities=[0]), thing(abilities=[0]), effect(0, [1], BLANK)]
        self.assertEqual(last(*calls, everything()), [0, 1, 0, 0, 0, 2, 0, 1, 1])

    def test_layers_ahead_of_layer_5_are_not_touched(self):
        calls = [ability(ANY, [2, 1]), thing(abilities=[0]), effect(0, [1], BLANK)]
        self.assertEqual(last(*calls, look(1)), [0, 0, 0, 0, 2, 0, 0, 0])


class Gone(unittest.TestCase):
    def test_a_removed_things_abilities(self):
        calls = [ability(ANY, GROW), thing(abilities=[0]), thing(), remove(1)]
        self.assertEqual(run(*calls, order(7), everything())[4:], [[0], [0, 2, 0, 0, 0]])

    def test_a_loose_effect_goes_on_without_a_removed_thing(self):
        calls = [thing(), thing(), effect(0, [1, 2], GROW), remove(1)]
        self.assertEqual(run(*calls, touched(0, 1), everything())[4:], [[0, 7, 2], [0, 2, 0, 1, 1]])
        self.assertEqual(run(*calls, remove(2), touched(0, 1), order(7))[5:], [[0, 7], [0, 0, 1]])


if __name__ == "__main__":
    unittest.main()
