"""What hangs on what, which one is free, and which free one is next."""

import unittest

from tests.helper import (
    ANY, BLANK, GROW, ability, effect, everything, fit, fresh, last, look, needs, order, run, thing, touched, which,
)

SIDES = slice(2, None, 4)
POWERS = slice(3, None, 4)


class OneOnAnother(unittest.TestCase):
    def hang(self, layer, calls):
        """The ability at thing 1 is older than loose effect 1, hangs on it, and goes behind it."""
        found = run(*calls, needs(layer), order(layer))
        self.assertEqual(found[-2:], [[0, 1, 0, 0, 1], [0, 0, 1, 1, 0]])

    def do_not_hang(self, layer, calls):
        found = run(*calls, needs(layer), order(layer))
        self.assertEqual(found[-2:], [[0], [0, 1, 0, 0, 1]])

    def test_by_a_things_side(self):
        calls = [ability(fit(whose=2, other=1), [1]), thing(0, abilities=[0]), thing(0), effect(1, [2], [1])]
        self.hang(2, calls)
        self.assertEqual(last(*calls, everything())[SIDES], [0, 0])

    def test_by_the_side_of_its_own_thing(self):
        calls = [ability(fit(whose=2), [1]), thing(0, abilities=[0]), thing(1), thing(0), effect(1, [1], [1])]
        self.hang(2, calls)
        self.assertEqual(last(*calls, everything())[SIDES], [1, 1, 1])

    def test_by_the_side_to_which_its_part_brings(self):
        calls = [ability(ANY, [1]), thing(0, abilities=[0]), thing(0), effect(1, [1], [1])]
        self.hang(2, calls)
        self.assertEqual(last(*calls, everything())[SIDES], [1, 1])
        self.hang(2, [ability([], [1]), thing(0, abilities=[0]), effect(1, [1], [1])])
        self.do_not_hang(2, [ability(ANY, [1]), thing(0, abilities=[0]), thing(0), effect(1, [2], [1])])

    def test_a_loose_effects_side_is_told(self):
        calls = [thing(0), effect(0, [1], [1]), effect(1, [1], [1])]
        self.assertEqual(run(*calls, needs(2), order(2), everything())[3:], [[0], [0, 0, 1, 0, 2], [0, 1, 1, 0, 0]])

    def test_by_kind(self):
        calls = [ability(fit(head=1), [4, 20]), thing(abilities=[0]), thing(), effect(0, [2], [2, 0])]
        self.hang(3, calls)
        self.assertEqual(last(*calls, which(0, fit(head=20))), [0, 2])
        calls = [ability(fit(head=1), [4, 20]), thing(abilities=[0]), thing(kinds=[0]), effect(0, [2], [3, 0])]
        self.hang(3, calls)
        self.assertEqual(last(*calls, which(0, fit(head=20))), [0])

    def test_by_subtype(self):
        calls = [ability(fit(head=10), [2, 1]), thing(abilities=[0]), thing(), effect(0, [2], [4, 10])]
        self.hang(3, calls)
        self.assertEqual(last(*calls, which(0, fit(head=2))), [0, 2])
        calls = [ability(fit(head=10), [2, 1]), thing(abilities=[0]), thing(subtypes=[10]), effect(0, [2], [5, 11])]
        self.hang(3, calls)
        self.assertEqual(last(*calls, which(0, fit(head=2))), [0])

    def test_by_colour(self):
        calls = [ability(fit(colour=0), [7, 1]), thing(abilities=[0]), thing(), effect(0, [2], [7, 0])]
        self.hang(4, calls)
        self.assertEqual(last(*calls, which(0, fit(colour=1))), [0, 2])
        self.hang(4, [ability(fit(colour=0), [7, 1]), thing(abilities=[0]), thing(colours=[0]), effect(0, [2], [6, 2])])

    def test_by_keyword(self):
        calls = [ability(fit(keyword=3), [8, 4]), thing(abilities=[0]), thing(), effect(0, [2], [8, 3])]
        self.hang(5, calls)
        self.assertEqual(last(*calls, which(0, fit(keyword=4))), [0, 2])
        self.hang(5, [ability(fit(keyword=3), [8, 4]), thing(abilities=[0]), thing(keywords=[3]), effect(0, [2], [9, 3])])
        self.hang(5, [ability(fit(keyword=3), [8, 4]), thing(abilities=[0]), thing(keywords=[3]), effect(0, [2], BLANK)])

    def test_by_power(self):
        calls = [ability(fit(power=3), [11, 9, 9]), thing(abilities=[0]), thing(), effect(0, [2], [11, 3, 0])]
        self.hang(6, calls)
        self.assertEqual(last(*calls, everything())[POWERS], [0, 9])
        calls = [ability(fit(power=3), [12, 9, 9]), thing(abilities=[0]), thing(), effect(0, [2], [12, 3, 0])]
        self.hang(7, calls)
        self.assertEqual(last(*calls, everything())[POWERS], [0, 12])
        calls = [ability(fit(power=3), [14]), thing(abilities=[0]), thing(body=3), effect(0, [2], [14])]
        self.hang(8, calls)
        self.assertEqual(last(*calls, everything())[POWERS], [0, 0])

    def test_because_it_would_not_be_there(self):
        for group in ([], fit(head=99)):
            calls = [ability(group, [8, 4]), thing(abilities=[0]), effect(0, [1], BLANK)]
            found = run(*calls, needs(5), order(5), look(1), touched(1, 0))
            self.assertEqual(found[3:], [[0, 1, 0, 0, 1], [0, 0, 1], [0] * 8, [-4]])

    def test_one_that_was_applied_stays_there(self):
        calls = [ability([], [4, 10], [8, 4]), thing(abilities=[0]), effect(0, [1], BLANK)]
        self.do_not_hang(5, calls)
        self.assertEqual(last(*calls, look(1)), [0] * 8 + [10])
        self.assertEqual(last(*calls, fresh(1), look(1)), [0, 0, 0, 0, 0, 0, 16, 0, 10])

    def test_an_ability_that_makes_its_own_thing_blank(self):
        calls = [ability([], BLANK, [8, 2]), thing(keywords=[1], abilities=[0])]
        self.assertEqual(run(*calls, needs(5), order(5), look(1))[2:], [[0], [0, 1, 0], [0, 0, 0, 0, 0, 0, 4, 0]])
        # The other one of the thing is no more then, and the older place goes first only where it's free.
        calls = [ability([], BLANK), ability([], [8, 2]), thing(abilities=[1, 0])]
        self.assertEqual(run(*calls, needs(5), order(5), look(1))[3:], [[0, 1, 0, 1, 1], [0, 1, 1], [0] * 8])

    def test_one_ability_that_blanks_twice(self):
        calls = [ability([], BLANK), thing(abilities=[0, 0])]
        self.assertEqual(run(*calls, needs(5), order(5))[2:], [[0, 1, 0, 1, 1, 1, 1, 1, 0], [0, 1, 0]])

    def test_by_how_many_things_a_counting_parts_filter_fits(self):
        counting = [13, 1, 0] + fit(power=3)
        calls = [ability([], counting), thing(abilities=[0]), thing(power=2), effect(0, [2], GROW)]
        self.hang(7, calls)
        self.assertEqual(last(*calls, everything())[POWERS], [1, 3])
        self.hang(7, [ability([], [13, 0, 1] + fit(power=3)), thing(abilities=[0]), thing(power=2), effect(0, [2], GROW)])

    def test_a_product_that_stays_is_read_the_same(self):
        nothing = [13, 0, 0] + fit(power=3)
        self.do_not_hang(7, [ability([], nothing), thing(abilities=[0]), thing(power=2), effect(0, [2], GROW)])
        # The thing grows, and fits as it did before.
        self.do_not_hang(7, [ability([], [13, 1, 1] + fit(power=2)), thing(abilities=[0]), thing(power=2), effect(0, [2], GROW)])
        self.do_not_hang(7, [ability([], [13, 1, 1] + ANY), thing(abilities=[0]), thing(power=2), effect(0, [2], GROW)])

    def test_a_counting_part_that_is_not_of_this_layer(self):
        counting = [13, 1, 0] + fit(keyword=3)
        self.do_not_hang(5, [ability([], [8, 1], [4, 10], counting), thing(abilities=[0]), thing(), effect(0, [2], [8, 3])])

    def test_one_that_has_settled_does_not_hang_by_its_filter(self):
        calls = [ability(fit(keyword=3), [4, 20], [8, 4]), thing(keywords=[3], abilities=[0]), thing(), effect(0, [2], [8, 3])]
        self.do_not_hang(5, calls)
        self.assertEqual(last(*calls, which(0, fit(keyword=4))), [0, 1])

    def test_a_quality_of_another_layer(self):
        # In layer 3 a keyword of layer 5 isn't there yet.
        calls = [ability(fit(keyword=3), [4, 20]), thing(abilities=[0]), thing(), effect(0, [2], [4, 30], [8, 3])]
        self.do_not_hang(3, calls)
        self.assertEqual(last(*calls, touched(1, 0)), [0, 3])


def turner(from_subtype, to_subtype):
    return ability(fit(head=from_subtype), [5, to_subtype])


def subtypes(*calls, things=3):
    found = run(*calls, *[look(number) for number in range(1, things + 1)])
    return [answer[8:] for answer in found[-things:]]


class Rings(unittest.TestCase):
    # Ability 0 turns 10 to 11, ability 1 turns 11 to 10.
    TWO = [turner(10, 11), turner(11, 10), thing(subtypes=[10], abilities=[0]), thing(subtypes=[11], abilities=[1])]
    # Ability 0 turns 10 to 11, ability 1 turns 11 to 12, ability 2 turns 12 to 10.
    TELL_THREE = [turner(10, 11), turner(11, 12), turner(12, 10), ability(fit(head=11), [2, 1])]
    THREE = [thing(subtypes=[10], abilities=[0]), thing(subtypes=[11], abilities=[1]), thing(subtypes=[12], abilities=[2])]

    def test_two(self):
        self.assertEqual(last(*self.TWO, needs(3)), [0, 1, 0, 2, 0, 2, 0, 1, 0])
        self.assertEqual(last(*self.TWO, order(3)), [0, 1, 0, 2, 0])
        self.assertEqual(subtypes(*self.TWO, things=2), [[10], [10]])

    def test_two_with_time_stamps_in_another_order(self):
        self.assertEqual(last(*self.TWO, fresh(1), needs(3)), [0, 1, 0, 2, 0, 2, 0, 1, 0])
        self.assertEqual(last(*self.TWO, fresh(1), order(3)), [0, 2, 0, 1, 0])
        self.assertEqual(subtypes(*self.TWO, fresh(1), things=2), [[11], [11]])
        self.assertEqual(subtypes(*self.TWO, fresh(1), fresh(2), things=2), [[10], [10]])

    def test_three(self):
        calls = self.TELL_THREE + self.THREE
        self.assertEqual(last(*calls, needs(3)), [0, 1, 0, 3, 0, 2, 0, 1, 0, 3, 0, 2, 0])
        self.assertEqual(last(*calls, order(3)), [0, 1, 0, 2, 0, 3, 0])
        self.assertEqual(subtypes(*calls), [[10], [10], [10]])

    def test_three_with_time_stamps_in_another_order(self):
        calls = self.TELL_THREE + self.THREE
        # 2 goes first: thing 2 turns to 12. Then 1 hangs on 3, and 3 on none: 2 and 3 turn to 10, then all to 11.
        self.assertEqual(last(*calls, fresh(1), order(3)), [0, 2, 0, 3, 0, 1, 0])
        self.assertEqual(subtypes(*calls, fresh(1)), [[11], [11], [11]])
        # 3 goes first: thing 3 turns to 10. Then 2 hangs on 1: 1 and 3 turn to 11, then all to 12.
        self.assertEqual(last(*calls, fresh(1), fresh(2), order(3)), [0, 3, 0, 1, 0, 2, 0])
        self.assertEqual(subtypes(*calls, fresh(1), fresh(2)), [[12], [12], [12]])

    def test_one_more_that_hangs_on_the_ring(self):
        # Thing 4 is the oldest by time stamps; its ability asks for subtype 11.
        calls = self.TELL_THREE + self.THREE + [thing(abilities=[3]), fresh(1), fresh(2), fresh(3)]
        self.assertEqual(last(*calls, needs(3)), [0, 1, 0, 3, 0, 2, 0, 1, 0, 3, 0, 2, 0, 4, 0, 1, 0, 4, 0, 2, 0])
        # Behind 1 and 2 there is no 11 any more, and it's free, and the oldest.
        self.assertEqual(last(*calls, order(3)), [0, 1, 0, 2, 0, 4, 0, 3, 0])
        self.assertEqual(last(*calls, touched(4, 0)), [0, 3])

    def test_one_more_on_which_the_ring_hangs(self):
        # The youngest brings thing 2 from 11 to 10; so 1 hangs on it, and 2 too.
        calls = self.TELL_THREE + self.THREE + [effect(0, [2], [5, 10])]
        self.assertEqual(last(*calls, needs(3)), [0, 1, 0, 0, 1, 1, 0, 3, 0, 2, 0, 0, 1, 2, 0, 1, 0, 3, 0, 2, 0])
        # Then no thing is of 11: 2 applies to none now, and 3 hangs on none.
        self.assertEqual(last(*calls, order(3)), [0, 0, 1, 3, 0, 1, 0, 2, 0])
        self.assertEqual(subtypes(*calls), [[12], [12], [12]])

    def test_the_ring_hangs_by_steps_where_one_of_it_hangs(self):
        # Only ability 1 asks for what the youngest gives: 1 hangs on it by steps alone, and isn't free either.
        calls = self.TWO + [thing(), effect(0, [3], [4, 11])]
        self.assertEqual(last(*calls, needs(3)), [0, 1, 0, 2, 0, 2, 0, 0, 1, 2, 0, 1, 0])
        self.assertEqual(last(*calls, order(3)), [0, 0, 1, 1, 0, 2, 0])
        self.assertEqual(subtypes(*calls), [[10], [10], [10]])

    def test_a_ring_beside_one_that_has_nothing_to_do_with_it(self):
        for ahead, expected in ((True, [0, 0, 1, 1, 0, 2, 0]), (False, [0, 1, 0, 2, 0, 0, 1])):
            loose = [effect(0, [], [4, 99])]
            calls = self.TWO[:2] + loose + self.TWO[2:] if ahead else self.TWO + loose
            self.assertEqual(last(*calls, order(3)), expected)

    def test_a_ring_in_another_layer(self):
        told = [ability(fit(power=3), [12, -2, 0]), ability([], [13, 2, 0] + fit(power=3))]
        calls = told + [thing(power=3, abilities=[0]), thing(power=1, abilities=[1])]
        self.assertEqual(last(*calls, needs(7)), [0, 1, 0, 2, 0, 2, 0, 1, 0])
        self.assertEqual(run(*calls, order(7), everything())[4:], [[0, 1, 0, 2, 0], [0, 1, 0, 1, 0, 2, 0, 1, 0]])
        self.assertEqual(run(*calls, fresh(1), order(7), everything())[5:], [[0, 2, 0, 1, 0], [0, 1, 0, 1, 0, 2, 0, 1, 0]])


class Steps(unittest.TestCase):
    def test_one_that_hangs_on_another_by_two_steps(self):
        told = [ability(fit(head=13), [4, 14]), ability(fit(head=12), [4, 13])]
        calls = told + [thing(abilities=[0]), thing(subtypes=[12], abilities=[1]), thing(), effect(0, [3], [4, 12])]
        self.assertEqual(last(*calls, needs(3)), [0, 1, 0, 2, 0, 2, 0, 0, 1])
        self.assertEqual(last(*calls, order(3)), [0, 0, 1, 2, 0, 1, 0])
        self.assertEqual(subtypes(*calls), [[], [12, 13, 14], [12, 13, 14]])

    def test_what_hangs_is_found_anew_each_time(self):
        # Nothing is of 12 at first, so 1 doesn't hang on 2; it does once the loose effect has been applied.
        told = [ability(fit(head=13), [4, 14]), ability(fit(head=12), [4, 13])]
        calls = told + [thing(), effect(0, [1], [4, 12]), thing(abilities=[0]), thing(abilities=[1])]
        self.assertEqual(last(*calls, needs(3)), [0, 3, 0, 0, 1])
        self.assertEqual(last(*calls, order(3)), [0, 0, 1, 3, 0, 2, 0])
        self.assertEqual(subtypes(*calls), [[12, 13, 14], [], []])


class TimeStamps(unittest.TestCase):
    def test_the_least_is_next(self):
        calls = [thing(), effect(0, [1], [11, 1, 1]), effect(0, [1], [11, 2, 2])]
        self.assertEqual(run(*calls, order(6), everything())[3:], [[0, 0, 1, 0, 2], [0, 1, 0, 2, 2]])

    def test_fresh(self):
        calls = [ability([], [11, 1, 1]), thing(abilities=[0]), effect(0, [1], [11, 2, 2])]
        self.assertEqual(run(*calls, order(6), everything())[3:], [[0, 1, 0, 0, 1], [0, 1, 0, 2, 2]])
        self.assertEqual(run(*calls, fresh(1), order(6), everything())[4:], [[0, 0, 1, 1, 0], [0, 1, 0, 1, 1]])

    def test_a_things_number_does_not_matter(self):
        calls = [ability(ANY, [11, 1, 1]), ability(ANY, [11, 2, 2]), thing(abilities=[0]), thing(abilities=[1])]
        self.assertEqual(last(*calls, everything())[POWERS], [2, 2])
        self.assertEqual(last(*calls, fresh(1), everything())[POWERS], [1, 1])
        self.assertEqual(last(*calls, fresh(1), fresh(2), order(6)), [0, 1, 0, 2, 0])

    def test_two_abilities_of_one_thing_by_their_places(self):
        told = [ability(ANY, [11, 1, 1]), ability(ANY, [11, 2, 2])]
        for places, power in (([0, 1], 2), ([1, 0], 1)):
            found = run(*told, thing(abilities=places), order(6), everything())[3:]
            self.assertEqual(found, [[0, 1, 0, 1, 1], [0, 1, 0, power, power]])

    def test_hanging_goes_ahead_of_places(self):
        told = [ability(fit(head=10), [2, 1]), ability([], [4, 10])]
        self.assertEqual(last(*told, thing(abilities=[0, 1]), order(3)), [0, 1, 1, 1, 0])

    def test_one_ability_twice_on_one_thing(self):
        calls = [ability([], GROW), thing(abilities=[0, 0])]
        found = run(*calls, order(7), everything(), touched(1, 0), touched(1, 1))[2:]
        self.assertEqual(found, [[0, 1, 0, 1, 1], [0, 1, 0, 2, 2], [0, 7, 1], [0, 7, 1]])

    def test_one_ability_on_two_things(self):
        calls = [ability(ANY, GROW), thing(abilities=[0]), thing(abilities=[0]), fresh(1)]
        self.assertEqual(run(*calls, order(7), everything())[4:], [[0, 2, 0, 1, 0], [0, 1, 0, 2, 2, 2, 0, 2, 2]])


if __name__ == "__main__":
    unittest.main()
