"""Parts and filters as they are applied; counters."""

import unittest

from tests.helper import (
    ANY, BIG, BLANK, GROW, ability, bend, count, effect, everything, fit, last, look, needs, order, run, thing, touched,
    which, why,
)

# Side 0, 2/5, a being and a relic, subtypes 10 and 11, colours 0 and 1, keywords 0 and 3.
ONE = thing(0, 0, 2, 5, [0, 1], [10, 11], [0, 1], [0, 3])
ONE_LOOK = [0, 0, 2, 5, 3, 3, 9, 0, 10, 11]


def under(*parts, side=0):
    """What a thing is under a loose effect of these parts."""
    return last(ONE, effect(side, [1], *parts), look(1))


def but(**changed):
    """What the thing is, but for these."""
    names = ("side", "power", "body", "kinds", "colours", "keywords")
    values = [changed.get(name, value) for name, value in zip(names, ONE_LOOK[1:7])]
    return [0] + values + [0] + changed.get("subtypes", [10, 11])


class EachPart(unittest.TestCase):
    def test_1_comes_to_the_effects_side(self):
        self.assertEqual(under([1], side=1), but(side=1))
        self.assertEqual(under([1], side=0), but())

    def test_1_of_an_ability_is_the_side_of_its_thing(self):
        for side in (0, 1):
            calls = [ability(ANY, [1]), thing(side=side, abilities=[0]), thing(), thing(side=1)]
            self.assertEqual(last(*calls, which(side, fit(whose=1))), [0, 1, 2, 3])

    def test_2_and_3_kinds(self):
        self.assertEqual([under([2, kind]) for kind in range(3)], [but(), but(), but(kinds=7)])
        self.assertEqual([under([3, kind]) for kind in range(3)], [but(kinds=2), but(kinds=1), but()])

    def test_4_and_5_subtypes(self):
        self.assertEqual(under([4, 10]), but())
        self.assertEqual(under([4, BIG]), but(subtypes=[10, 11, BIG]))
        self.assertEqual(under([5, 11]), but(subtypes=[11]))
        self.assertEqual(under([5, 12]), but(subtypes=[12]))

    def test_4_beyond_four_subtypes(self):
        full = thing(subtypes=[20, 21, 22, 23])
        self.assertEqual(last(full, effect(0, [1], [4, 10], [4, 30]), look(1)), [0] * 8 + [10, 20, 21, 22, 23, 30])

    def test_6_and_7_colours(self):
        self.assertEqual([under([6, colour]) for colour in range(4)], [but(colours=2 ** colour) for colour in range(4)])
        self.assertEqual([under([7, colour]) for colour in range(4)],
                         [but(), but(), but(colours=7), but(colours=11)])

    def test_8_and_9_keywords(self):
        self.assertEqual([under([8, 0]), under([8, 1]), under([8, 14])], [but(), but(keywords=11), but(keywords=16393)])
        self.assertEqual([under([9, 0]), under([9, 3]), under([9, 14])], [but(keywords=8), but(keywords=1), but()])

    def test_10_is_blank(self):
        self.assertEqual(under(BLANK), but(keywords=0))
        calls = [ability(ANY, GROW), thing(keywords=[1], abilities=[0, 0]), effect(0, [1], BLANK)]
        self.assertEqual(last(*calls, look(1)), [0] * 8)

    def test_11_power_and_body_are(self):
        self.assertEqual(under([11, 7, -8]), but(power=7, body=-8))
        self.assertEqual(under([11, BIG, 0]), but(power=BIG, body=0))

    def test_12_added(self):
        self.assertEqual(under([12, 7, -8]), but(power=9, body=-3))
        self.assertEqual(under([12, -BIG, BIG]), but(power=2 - BIG, body=5 + BIG))

    def test_13_added_as_many_times_as_things_fit(self):
        self.assertEqual(under([13, 3, -1] + ANY), but(power=5, body=4))
        self.assertEqual(under([13, 3, -1] + fit(head=12)), but())
        more = [thing(), thing(1), thing(colours=[2])]
        self.assertEqual(last(ONE, *more, effect(0, [1], [13, 3, -1] + ANY), look(1)), but(power=14, body=1))
        self.assertEqual(last(ONE, *more, effect(0, [1], [13, 3, -1] + fit(whose=1)), look(1)), but(power=11, body=2))
        self.assertEqual(last(ONE, *more, effect(1, [1], [13, 3, -1] + fit(whose=1)), look(1)), but(power=5, body=4))

    def test_13_of_an_ability_counts_for_its_thing(self):
        told = [ability(ANY, [13, 1, 10] + fit(other=1, whose=2))]
        calls = [*told, thing(1, abilities=[0]), thing(0), thing(0), thing(1)]
        self.assertEqual(last(*calls, everything()), [0, 1, 1, 2, 20, 2, 0, 2, 20, 3, 0, 2, 20, 4, 1, 2, 20])
        told = [ability([], [13, 1, 10] + fit(other=1))]
        self.assertEqual(last(*told, thing(abilities=[0]), thing(), everything()), [0, 1, 0, 1, 10, 2, 0, 0, 0])

    def test_14_exchanged(self):
        self.assertEqual(under([14]), but(power=5, body=2))
        self.assertEqual(under([14], [14]), but())

    def test_0_becomes_a_copy(self):
        other = thing(1, 1, 9, 8, [2], [12, 10], [2], [5])
        self.assertEqual(last(ONE, other, effect(0, [1], [0, 2]), look(1)), [0, 0, 9, 8, 4, 4, 32, 0, 10, 12])
        self.assertEqual(last(ONE, other, effect(0, [1], [0, 2]), look(2)), [0, 1, 9, 8, 4, 4, 32, 0, 10, 12])

    def test_great_numbers(self):
        counting = [13, BIG, -BIG] + ANY
        told = [ability(ANY, *[counting] * 4)]
        things = [thing(0, 0, BIG, -BIG, abilities=[0, 0])] * 10
        loose = [effect(0, list(range(1, 11)), *[counting] * 4)] * 10
        sums = BIG + 30 * 4 * 10 * BIG
        self.assertEqual(last(*told, *things, *loose, look(10)), [0, 0, sums, -sums, 0, 0, 0, 2])


class SeveralParts(unittest.TestCase):
    def test_of_one_layer_in_their_order(self):
        self.assertEqual(under([4, 12], [5, 13]), but(subtypes=[13]))
        self.assertEqual(under([5, 13], [4, 12]), but(subtypes=[12, 13]))
        self.assertEqual(under([2, 2], [3, 2]), but())
        self.assertEqual(under([3, 2], [2, 2]), but(kinds=7))
        self.assertEqual(under([7, 2], [6, 3]), but(colours=8))
        self.assertEqual(under([6, 3], [7, 2]), but(colours=12))
        self.assertEqual(under([8, 5], BLANK), but(keywords=0))
        self.assertEqual(under(BLANK, [8, 5]), but(keywords=32))
        self.assertEqual(under([11, 1, 1], [11, 3, 4]), but(power=3, body=4))

    def test_of_one_layer_are_read_ahead_of_all_of_them(self):
        # The first part alone would bring the power to 4, and so what the second one counts.
        self.assertEqual(under([12, 2, 0], [13, 1, 1] + fit(power=4)), but(power=4))
        copies = effect(0, [1, 2], [0, 2], [0, 1])
        self.assertEqual(last(thing(power=1), thing(power=2), copies, everything()), [0, 1, 0, 1, 0, 2, 0, 1, 0])

    def test_things_are_changed_by_one_reading(self):
        # Had the first thing grown ahead of the second's reading, two would be counted.
        calls = [thing(power=3), thing(power=4), effect(0, [1, 2], [13, 1, 0] + fit(power=4))]
        self.assertEqual(last(*calls, everything()), [0, 1, 0, 4, 0, 2, 0, 5, 0])

    def test_of_several_layers_go_by_layers(self):
        self.assertEqual(under([14], GROW, [11, 1, 3]), but(power=4, body=2))
        self.assertEqual(under([11, 1, 3], GROW, [14]), but(power=4, body=2))
        parts = ([14], [8, 1], [6, 2], [3, 0])
        calls = [ONE, effect(0, [1], *parts), *[order(layer) for layer in range(1, 9)], why(1), look(1)]
        applied = [[0], [0], [0, 0, 1], [0, 0, 1], [0, 0, 1], [0], [0], [0, 0, 1]]
        self.assertEqual(run(*calls)[2:10], applied)
        self.assertEqual(run(*calls)[10:], [[0, 3, 0, 1, 4, 0, 1, 5, 0, 1, 8, 0, 1],
                                            but(power=5, body=2, kinds=2, colours=4, keywords=11)])

    def test_of_two_layers_of_an_ability(self):
        calls = [ability([], [12, 1, 2], [1], [14], [4, 10]), thing(0, 0, 2, 5, abilities=[0])]
        self.assertEqual(last(*calls, look(1)), [0, 0, 7, 3, 0, 0, 0, 1, 10])


class EachNumberOfAFilter(unittest.TestCase):
    """Thing 2 has the ability and is of side 1; what fits is asked in three ways."""

    THINGS = (
        dict(side=0, bent=0, power=1, kinds=[0], subtypes=[10], colours=[0], keywords=[0]),
        dict(side=1, bent=1, power=2, kinds=[1], subtypes=[11], colours=[1], keywords=[1]),
        dict(side=1, bent=0, power=3, kinds=[2], subtypes=[10, BIG], colours=[3], keywords=[14]),
        dict(side=0, bent=1, power=-1, kinds=[0, 2], subtypes=[], colours=[0, 3], keywords=[0, 14]),
    )

    def things(self, abilities):
        made = []
        for place, named in enumerate(self.THINGS):
            made.append(thing(abilities=abilities if place == 1 else [], **named))
        return made

    def fits(self, row, expected, other=False):
        group = [ability(row, [12, 0, 100]), *self.things([0])]
        self.assertEqual(last(*group, touched(2, 0)), [0, 7] + expected, row)
        counting = [ability([], [13, 0, 100] + row), *self.things([0])]
        self.assertEqual(last(*counting, everything())[8], 100 * len(expected), row)
        loose = expected if not other else [1, 2, 3, 4]
        self.assertEqual(last(*self.things([]), which(1, row)), [0] + loose, row)
        swapped = [effect(1, [1], [13, 0, 100] + row)]
        self.assertEqual(last(*self.things([]), *swapped, everything())[4], 100 * len(loose), row)

    def test_any(self):
        self.fits(ANY, [1, 2, 3, 4])

    def test_other(self):
        self.fits(fit(other=1), [1, 3, 4], other=True)

    def test_whose(self):
        self.fits(fit(whose=1), [2, 3])
        self.fits(fit(whose=2), [1, 4])

    def test_bent(self):
        self.fits(fit(bent=1), [2, 4])
        self.fits(fit(bent=2), [1, 3])

    def test_colour(self):
        for colour, expected in enumerate(([1, 4], [2], [], [3, 4])):
            self.fits(fit(colour=colour), expected)

    def test_head(self):
        for head, expected in ((1, [1, 4]), (2, [2]), (3, [3, 4]), (10, [1, 3]), (11, [2]), (12, []), (BIG, [3])):
            self.fits(fit(head=head), expected)

    def test_keyword(self):
        for keyword, expected in ((0, [1, 4]), (1, [2]), (2, []), (13, []), (14, [3, 4])):
            self.fits(fit(keyword=keyword), expected)

    def test_least_power(self):
        for power, expected in ((-BIG, [1, 2, 3, 4]), (-1, [1, 2, 3, 4]), (0, [1, 2, 3]), (2, [2, 3]), (3, [3]), (4, [])):
            self.fits(fit(power=power), expected)

    def test_a_least_power_that_is_not_named(self):
        self.fits(ANY[:6] + [0, 3], [1, 2, 3, 4])
        self.fits(ANY[:6] + [0, BIG], [1, 2, 3, 4])

    def test_several_at_once(self):
        self.fits(fit(whose=2, bent=1, colour=3, head=3, keyword=0, power=-1), [4])
        self.fits(fit(whose=2, bent=2, colour=3, head=3, keyword=0, power=-1), [])
        self.fits(fit(whose=1, head=10), [3])

    def test_bend_and_own_thing(self):
        calls = [ability(fit(bent=1), GROW), thing(abilities=[0])]
        self.assertEqual(last(*calls, bend(1, 1), look(1)), [0, 0, 1, 1, 0, 0, 0, 1])
        self.assertEqual(last(*calls, bend(1, 1), bend(1, 0), look(1)), [0, 0, 0, 0, 0, 0, 0, 1])


class ToWhat(unittest.TestCase):
    def test_a_loose_effects_things_that_are_there(self):
        calls = [thing(), thing(), thing(), effect(0, [3, 1], GROW)]
        self.assertEqual(last(*calls, everything()), [0, 1, 0, 1, 1, 2, 0, 0, 0, 3, 0, 1, 1])
        self.assertEqual(last(*calls, [2, 1, 1, 0], touched(0, 1)), [0, 7, 3])

    def test_the_thing_alone_that_has_it(self):
        calls = [ability([], GROW), thing(), thing(abilities=[0]), thing()]
        self.assertEqual(last(*calls, everything()), [0, 1, 0, 0, 0, 2, 0, 1, 1, 3, 0, 0, 0])

    def test_by_what_things_are_at_that_moment(self):
        # In layer 6 by the powers in front of it, in layer 7 by those that layer 6 left.
        calls = [ability(fit(power=3), [11, 1, 1]), ability(fit(power=3), [12, 0, 9]),
                 thing(power=3, abilities=[0]), thing(abilities=[1]), effect(0, [2], [12, 5, 0])]
        self.assertEqual(last(*calls, everything()), [0, 1, 0, 1, 1, 2, 0, 5, 9])


class Counters(unittest.TestCase):
    def test_plus_is_added_and_minus_taken(self):
        self.assertEqual(last(thing(power=2, body=3), count(1, 4, 0), everything()), [0, 1, 0, 6, 7])
        self.assertEqual(last(thing(power=2, body=3), count(1, 0, 4), everything()), [0, 1, 0, -2, -1])
        self.assertEqual(last(thing(power=2, body=3), count(1, 4, 5), everything()), [0, 1, 0, 1, 2])
        self.assertEqual(last(thing(power=2, body=3), count(1, BIG, 0), everything()), [0, 1, 0, BIG + 2, BIG + 3])

    def test_behind_layer_6_and_in_front_of_layer_7(self):
        calls = [thing(power=2, body=3), count(1, 2, 0)]
        self.assertEqual(last(*calls, effect(0, [1], [11, 7, 1]), everything()), [0, 1, 0, 9, 3])
        self.assertEqual(last(*calls, effect(0, [1], [13, 1, 0] + fit(power=4)), everything()), [0, 1, 0, 5, 5])
        self.assertEqual(last(*calls, effect(0, [1], [14]), everything()), [0, 1, 0, 5, 4])

    def test_a_filter_in_layer_6_does_not_see_them(self):
        calls = [ability(fit(power=4), [11, 0, 0]), thing(power=2, abilities=[0]), count(1, 2, 0)]
        self.assertEqual(run(*calls, touched(1, 0), everything())[3:], [[0, 6], [0, 1, 0, 4, 2]])
        calls = [ability(fit(power=4), [12, 1, 0]), thing(power=2, abilities=[0]), count(1, 2, 0)]
        self.assertEqual(run(*calls, touched(1, 0), everything())[3:], [[0, 7, 1], [0, 1, 0, 5, 2]])

    def test_once(self):
        calls = [thing(), count(1, 1, 0), effect(0, [1], GROW), effect(0, [1], GROW), effect(0, [1], [14])]
        self.assertEqual(last(*calls, everything()), [0, 1, 0, 3, 3])

    def test_needs_of_layer_7_with_them(self):
        calls = [thing(power=2), thing(power=3), effect(0, [1], [13, 1, 0] + fit(power=4)), effect(0, [2], GROW)]
        self.assertEqual(run(*calls, needs(7), order(7))[4:], [[0, 0, 1, 0, 2], [0, 0, 2, 0, 1]])
        self.assertEqual(run(*calls, count(2, 1, 0), needs(7), order(7))[5:], [[0], [0, 0, 1, 0, 2]])
        self.assertEqual(run(*calls, count(2, 0, 1), needs(7), order(7))[5:], [[0], [0, 0, 1, 0, 2]])
        self.assertEqual(run(*calls, count(2, 1, 1), needs(7))[5:], [[0, 0, 1, 0, 2]])


if __name__ == "__main__":
    unittest.main()
