"""The calls 9 to 17: what they answer, what they refuse, that they change nothing."""

import unittest

from lasting.field import Field
from tests.helper import (
    ANY, BIG, BLANK, GROW, ability, bend, count, counts, effect, everything, fade, fit, fresh, last, look, needs, order,
    own, printed, remove, run, run_on, state, thing, touched, which, why,
)

NOWHERE = fit(head=BIG)
NO_THINGS = (-BIG, -1, 0, 3, BIG)
TWO = [thing(0, 0, 2, 3), thing(1, 1, 4, 5)]
# One that is applied on thing 1 in layer 7, one in layers 3 and 7, one that settles on no thing.
THREE_EFFECTS = [
    ability([], [12, 1, 0]), ability(NOWHERE, [4, 10]), thing(0, 0, 2, 3, abilities=[0, 1]), thing(1, 1, 4, 5),
    effect(1, [2, 1], [2, 0], GROW),
]


class Look(unittest.TestCase):
    def test_each_number_in_its_place(self):
        told = [ability(NOWHERE, GROW), ability(NOWHERE, BLANK)]
        one = thing(1, 1, 3, -4, [2, 0], [12, 10], [3, 1], [14, 0], [1, 0])
        self.assertEqual(last(*told, one, look(1)), [0, 1, 3, -4, 5, 10, 16385, 2, 10, 12])
        self.assertEqual(last(*told, one, printed(1)), [0, 1, 3, -4, 5, 10, 16385, 2, 10, 12])

    def test_a_bare_thing(self):
        self.assertEqual(run(thing(), look(1), printed(1))[1:], [[0] * 8] * 2)

    def test_all_there_is(self):
        full = thing(0, 0, BIG, -BIG, [0, 1, 2], [13, BIG, 10, 11], [0, 1, 2, 3], list(range(15)))
        expected = [0, 0, BIG, -BIG, 7, 15, 32767, 0, 10, 11, 13, BIG]
        self.assertEqual(run(full, look(1), printed(1))[1:], [expected] * 2)

    def test_each_kind_colour_and_keyword_alone(self):
        for name, place, most in (("kinds", 4, 2), ("colours", 5, 3), ("keywords", 6, 14)):
            for value in range(most + 1):
                for ask in (look, printed):
                    expected = [0] * 8
                    expected[place] = 2 ** value
                    self.assertEqual(last(thing(**{name: [value]}), ask(1)), expected)

    def test_one_ability_twice_is_two(self):
        self.assertEqual(last(ability(NOWHERE, GROW), thing(abilities=[0, 0]), look(1)), [0, 0, 0, 0, 0, 0, 0, 2])

    def test_printed_qualities_are_told_without_effects_and_counters(self):
        found = run(thing(0, 0, 2, 3, [0], [11], [1], [1]), count(1, 5, 1), bend(1, 1),
                    effect(1, [1], [1], [2, 1], [6, 2], [12, 9, 9]), effect(1, [1], BLANK), look(1), printed(1))
        self.assertEqual(found[-2:], [[0, 1, 15, 16, 3, 4, 0, 0, 11], [0, 0, 2, 3, 1, 2, 2, 0, 11]])

    def test_own_changes_the_printed_side(self):
        self.assertEqual(run(thing(), own(1, 1), printed(1), look(1))[2:], [[0, 1] + [0] * 6] * 2)

    def test_no_such_thing(self):
        for ask in (look, printed, why):
            self.assertEqual(last(ask(1)), [-3])
            self.assertEqual(last(*TWO, remove(1), ask(1)), [-3])
            for n in NO_THINGS:
                self.assertEqual(last(*TWO, ask(n)), [-3], n)


class Everything(unittest.TestCase):
    def test_no_things(self):
        self.assertEqual(last(everything()), [0])
        self.assertEqual(last(thing(), remove(1), everything()), [0])

    def test_things_in_order_behind_all_layers(self):
        self.assertEqual(last(*TWO, everything()), [0, 1, 0, 2, 3, 2, 1, 4, 5])
        changed = [effect(1, [1], [1], [12, 1, 2]), count(2, 3, 0), effect(0, [2], [14])]
        self.assertEqual(last(*TWO, *changed, everything()), [0, 1, 1, 3, 5, 2, 1, 8, 7])

    def test_numbers_go_on_behind_a_removed_thing(self):
        self.assertEqual(last(*TWO, remove(1), thing(0, 0, 7, 7), everything()), [0, 2, 1, 4, 5, 3, 0, 7, 7])


class Order(unittest.TestCase):
    def test_layers_outside(self):
        for ask in (order, needs):
            for layer in (-BIG, -1, 0, 9, BIG):
                self.assertEqual(last(ask(layer)), [-2], layer)
                self.assertEqual(last(*THREE_EFFECTS, ask(layer)), [-2], layer)

    def test_each_layer_where_nothing_is(self):
        for ask in (order, needs):
            for layer in range(1, 9):
                self.assertEqual(last(ask(layer)), [0])

    def test_each_layer(self):
        one_each = [[0, 1], [1], [2, 0], [6, 0], [8, 0], [11, 1, 1], GROW, [14]]
        for place, part in enumerate(one_each):
            calls = [thing(), effect(0, [1], part)]
            found = run(*calls, *[order(layer) for layer in range(1, 9)])[2:]
            self.assertEqual(found, [[0, 0, 1] if at == place else [0] for at in range(8)])

    def test_names(self):
        self.assertEqual(last(*THREE_EFFECTS, order(3)), [0, 1, 1, 0, 1])
        self.assertEqual(last(*THREE_EFFECTS, order(7)), [0, 1, 0, 0, 1])

    def test_a_fade_and_a_remove_take_names_away(self):
        self.assertEqual(last(*THREE_EFFECTS, fade(1), order(7)), [0, 1, 0])
        self.assertEqual(last(*THREE_EFFECTS, remove(1), order(7)), [0, 0, 1])

    def test_an_ability_that_no_thing_has(self):
        self.assertEqual(last(ability(ANY, GROW), thing(), order(7)), [0])


class Needs(unittest.TestCase):
    def test_pairs_stand_by_the_first_then_the_second(self):
        told = [ability(fit(head=10), [4, 11]), ability(fit(head=11), [4, 10])]
        things = [thing(subtypes=[10], abilities=[1, 0]), thing(abilities=[0])]
        found = last(*told, *things, effect(0, [2], [4, 11]), effect(0, [2], [4, 10]), needs(3))
        # Giving 10 changes what the two filters of 10 fit; giving 11 what the filter of 11 fits.
        self.assertEqual(found, [0, 1, 0, 0, 1, 1, 0, 1, 1, 1, 0, 2, 0, 1, 1, 0, 2, 2, 0, 0, 2])

    def test_loose_effects_by_their_numbers_not_by_time(self):
        copies = [effect(0, [1], [0, 2]), effect(0, [2], [0, 3]), effect(0, [2], [0, 4])]
        things = [thing(power=power) for power in range(4)]
        self.assertEqual(last(*things, *copies, needs(1)), [0, 0, 1, 0, 2, 0, 1, 0, 3])

    def test_as_things_are_in_front_of_the_layer(self):
        told = [ability(fit(keyword=1), [8, 2]), ability([], [8, 1])]
        calls = [*told, thing(abilities=[0]), thing(abilities=[1])]
        self.assertEqual(run(*calls, needs(5), order(5))[-2:], [[0, 1, 0, 2, 0], [0, 2, 0, 1, 0]])
        # With the keyword there from the beginning nothing hangs, though it is given again.
        calls = [*told, thing(abilities=[0]), thing(keywords=[1], abilities=[1])]
        self.assertEqual(run(*calls, needs(5), order(5))[-2:], [[0], [0, 1, 0, 2, 0]])

    def test_an_effect_that_is_not_there_stands_in_no_pair(self):
        counting = [13, 1, 0] + fit(power=3)
        calls = [ability([], counting), thing(power=2, abilities=[0]), effect(0, [1], [12, 1, 0])]
        self.assertEqual(last(*calls, needs(7)), [0, 1, 0, 0, 1])
        self.assertEqual(last(*calls, effect(0, [1], BLANK), needs(7)), [0])


class Which(unittest.TestCase):
    def test_sides(self):
        for side, expected in ((0, [0, 1]), (1, [0, 2])):
            self.assertEqual(last(*TWO, which(side, fit(whose=1))), expected)
        for side in (-BIG, -1, 2, BIG):
            self.assertEqual(last(*TWO, which(side, ANY)), [-2], side)
            self.assertEqual(last(which(side, [0])), [-2], side)

    def test_a_filter_outside_its_form(self):
        for row in ([], [0], ANY[:7], ANY + [0], [0] * 50, [2] + ANY[1:], [-1] + ANY[1:], [0, 3] + ANY[2:],
                    [0, 0, 3] + ANY[3:], [0, 0, 0, 5] + ANY[4:], [0, 0, 0, 0, 4] + ANY[5:], [0, 0, 0, 0, 9] + ANY[5:],
                    [0, 0, 0, 0, -1] + ANY[5:], ANY[:5] + [16, 0, 0], ANY[:6] + [2, 0], ANY[:6] + [-1, 0]):
            for side in (0, 1):
                self.assertEqual(last(*TWO, which(side, row)), [-2], row)

    def test_things_in_order_as_they_are_behind_all_layers(self):
        calls = [*TWO, thing(0, 0, 0, 9), effect(0, [3], [14])]
        self.assertEqual(last(*calls, which(0, ANY)), [0, 1, 2, 3])
        self.assertEqual(last(*calls, which(0, fit(power=3))), [0, 2, 3])
        self.assertEqual(last(*calls, count(1, 1, 0), which(0, fit(power=3))), [0, 1, 2, 3])
        self.assertEqual(last(*calls, which(0, fit(power=10))), [0])
        self.assertEqual(last(which(0, ANY)), [0])

    def test_a_loose_effect_is_no_things_ability(self):
        self.assertEqual(last(*TWO, which(0, fit(other=1))), [0, 1, 2])


class Touched(unittest.TestCase):
    def test_the_first_layer_and_the_things_in_order(self):
        self.assertEqual(last(*THREE_EFFECTS, touched(1, 0)), [0, 7, 1])
        self.assertEqual(last(*THREE_EFFECTS, touched(0, 1)), [0, 3, 1, 2])

    def test_one_that_settled_on_no_thing(self):
        self.assertEqual(last(*THREE_EFFECTS, touched(1, 1)), [0, 3])
        self.assertEqual(last(effect(0, [], GROW), touched(0, 1)), [0, 7])
        self.assertEqual(last(thing(), effect(0, [1], GROW), remove(1), touched(0, 1)), [0, 7])

    def test_one_that_is_not_there(self):
        self.assertEqual(last(touched(0, 1)), [-4])
        for name in ((0, 0), (0, 2), (0, -1), (1, 2), (1, -1), (2, 0), (3, 0), (-1, 0), (-1, 1), (BIG, BIG), (-BIG, -BIG)):
            self.assertEqual(last(*THREE_EFFECTS, touched(*name)), [-4], name)

    def test_one_that_has_gone(self):
        self.assertEqual(last(*THREE_EFFECTS, fade(1), touched(0, 1)), [-4])
        self.assertEqual(last(*THREE_EFFECTS, remove(1), touched(1, 0)), [-4])

    def test_one_that_is_there_and_was_not_applied(self):
        self.assertEqual(last(*THREE_EFFECTS, effect(0, [1], BLANK), touched(1, 0)), [-4])
        # The other one was applied ahead of the layer in which its thing becomes blank.
        self.assertEqual(last(*THREE_EFFECTS, effect(0, [1], BLANK), touched(1, 1)), [0, 3])


class Why(unittest.TestCase):
    def test_each_time_in_order(self):
        self.assertEqual(last(*THREE_EFFECTS, why(1)), [0, 3, 0, 1, 7, 1, 0, 7, 0, 1])
        self.assertEqual(last(*THREE_EFFECTS, why(2)), [0, 3, 0, 1, 7, 0, 1])

    def test_nothing_was_applied(self):
        self.assertEqual(last(*TWO, effect(0, [2], GROW), effect(0, [], GROW), why(1)), [0])

    def test_several_parts_of_one_layer_are_one_time(self):
        self.assertEqual(last(*TWO, effect(0, [1], GROW, GROW, [8, 1], GROW), why(1)), [0, 5, 0, 1, 7, 0, 1])

    def test_also_what_changes_nothing(self):
        self.assertEqual(last(*TWO, effect(0, [1], [12, 0, 0]), effect(0, [1], [0, 1]), why(1)), [0, 1, 0, 2, 7, 0, 1])


class Counts(unittest.TestCase):
    def test_none(self):
        self.assertEqual(last(counts()), [0, 0, 0])

    def test_three_numbers_alone(self):
        self.assertEqual(last(*THREE_EFFECTS, counts()), [2, 2, 1])
        self.assertEqual(last(*THREE_EFFECTS, thing(), thing(), effect(0, [], GROW), counts()), [4, 2, 2])

    def test_what_is_removed_or_has_faded_does_not_count(self):
        self.assertEqual(last(*THREE_EFFECTS, remove(1), counts()), [1, 2, 1])
        self.assertEqual(last(*THREE_EFFECTS, fade(1), counts()), [2, 2, 0])

    def test_all_is_full(self):
        full = [ability([], GROW)] * 17 + [thing()] * 11 + [effect(0, [], GROW)] * 11
        self.assertEqual(last(*full, counts()), [10, 16, 10])


ASKED = [
    look(1), look(9), printed(1), printed(9), everything(), order(0), order(1), order(7), order(8), order(9), needs(0),
    needs(1), needs(7), needs(8), needs(9), which(0, ANY), which(2, ANY), which(0, [1]), touched(0, 1), touched(1, 0),
    touched(9, 9), why(1), why(9), counts(),
]


class Between(unittest.TestCase):
    def test_none_of_them_changes_anything(self):
        field = Field()
        run_on(field, *THREE_EFFECTS)
        before = state(field)
        for one in ASKED:
            run_on(field, one)
            self.assertEqual(state(field), before)

    def test_answers_follow_each_change(self):
        changes = [
            *THREE_EFFECTS, count(1, 4, 1), bend(1, 1), fresh(1), own(1, 1), effect(0, [1], [0, 2]), fade(1),
            effect(1, [1, 2], BLANK), remove(2), thing(0, 0, 1, 1, abilities=[1, 0]), remove(1),
        ]
        for place, one in enumerate(changes):
            before = changes[:place]
            found = run(*before, *ASKED, one, *ASKED)
            self.assertEqual(found[place:place + len(ASKED)], [last(*before, asked) for asked in ASKED])
            self.assertEqual(found[-len(ASKED):], [last(*before, one, asked) for asked in ASKED])

    def test_refused_calls_leave_the_answers_as_they_were(self):
        refused = [
            ability([1], GROW), ability([]), ability([], [0, 1]), thing(side=2), thing(abilities=[9]), remove(7),
            effect(2, [], GROW), effect(0, [9], GROW), fade(5), count(1, -1, 0), count(9, 0, 0), bend(1, 2), fresh(9),
            own(1, 2), own(9, 0),
        ]
        answered = run(*THREE_EFFECTS, *ASKED)[len(THREE_EFFECTS):]
        for one in refused:
            found = run(*THREE_EFFECTS, *ASKED, one, *ASKED)[len(THREE_EFFECTS):]
            self.assertLess(found[len(ASKED)][0], 0)
            self.assertEqual(found[:len(ASKED)], answered)
            self.assertEqual(found[len(ASKED) + 1:], answered)


if __name__ == "__main__":
    unittest.main()
