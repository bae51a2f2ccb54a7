"""Call 1, thing, and call 2, remove."""

import unittest

from tests.helper import ANY, BIG, GROW, ability, bend, count, effect, fresh, last, own, remove, run, thing

TOLD = [ability([], GROW)] * 16


class Thing(unittest.TestCase):
    def test_numbers_in_order(self):
        self.assertEqual(run(thing(), thing(side=1), thing()), [[0, 1], [0, 2], [0, 3]])

    def test_abilities_and_loose_effects_do_not_number_things(self):
        self.assertEqual(last(thing(), ability([], GROW), effect(0, [1], GROW), thing()), [0, 2])

    def test_a_thing_with_all_there_is(self):
        full = thing(1, 1, BIG, -BIG, [2, 0, 1], [10, BIG, 12, 11], [3, 2, 1, 0], list(range(15)), [15, 0])
        self.assertEqual(last(*TOLD, full), [0, 1])

    def test_side_and_bent(self):
        for value in (0, 1):
            self.assertEqual(last(thing(side=value)), [0, 1])
            self.assertEqual(last(thing(bent=value)), [0, 1])
        for value in (-BIG, -1, 2, BIG):
            self.assertEqual(last(thing(side=value)), [-2])
            self.assertEqual(last(thing(bent=value)), [-2])

    def test_power_and_body(self):
        for value in (-BIG, -1, 0, 1, BIG):
            self.assertEqual(last(thing(power=value)), [0, 1])
            self.assertEqual(last(thing(body=value)), [0, 1])
        for value in (-BIG - 1, BIG + 1):
            self.assertEqual(last(thing(power=value)), [-2])
            self.assertEqual(last(thing(body=value)), [-2])

    def test_sets_at_the_edges_of_their_ranges(self):
        for name, low, high in (("kinds", 0, 2), ("subtypes", 10, BIG), ("colours", 0, 3), ("keywords", 0, 14)):
            for row in ([], [low], [high], [low, high], [high, low]):
                self.assertEqual(last(thing(**{name: row})), [0, 1], (name, row))
            for value in (-BIG, low - 1, high + 1):
                for row in ([value], [low, value], [value, high]):
                    self.assertEqual(last(thing(**{name: row})), [-2], (name, row))

    def test_a_number_twice_in_a_set(self):
        for name, low, high in (("kinds", 0, 2), ("subtypes", 10, BIG), ("colours", 0, 3), ("keywords", 0, 14)):
            for row in ([low, low], [high, high], [low, high, low]):
                self.assertEqual(last(thing(**{name: row})), [-2], (name, row))

    def test_how_long_sets_may_be(self):
        self.assertEqual(last(thing(kinds=[0, 1, 2])), [0, 1])
        self.assertEqual(last(thing(kinds=[0, 1, 2, 0])), [-2])
        self.assertEqual(last(thing(subtypes=[10, 11, 12, 13])), [0, 1])
        self.assertEqual(last(thing(subtypes=[10, 11, 12, 13, 14])), [-2])
        self.assertEqual(last(thing(subtypes=list(range(10, 60)))), [-2])
        self.assertEqual(last(thing(colours=[0, 1, 2, 3])), [0, 1])
        self.assertEqual(last(thing(colours=[0, 1, 2, 3, 0])), [-2])
        self.assertEqual(last(thing(keywords=list(range(15)))), [0, 1])
        self.assertEqual(last(thing(keywords=list(range(15)) + [7])), [-2])

    def test_one_number_in_two_sets(self):
        self.assertEqual(last(*TOLD, thing(kinds=[1], subtypes=[10], colours=[1], keywords=[1, 10], abilities=[1, 10])), [0, 1])

    def test_abilities_of_a_thing(self):
        for row in ([], [0], [15], [0, 15], [15, 0], [3, 3]):
            self.assertEqual(last(*TOLD, thing(abilities=row)), [0, 1], row)
        for row in ([-1], [16], [0, 16], [-1, 0], [BIG], [-BIG], [0, 1, 2], [3, 3, 3], [0] * 50):
            self.assertEqual(last(*TOLD, thing(abilities=row)), [-2], row)

    def test_abilities_that_have_not_been_told(self):
        for row in ([0], [15], [0, 0]):
            self.assertEqual(last(thing(abilities=row)), [-7], row)
        two = [ability([], GROW), ability(ANY, GROW)]
        for row in ([2], [0, 2], [2, 0], [1, 15], [2, 2]):
            self.assertEqual(last(*two, thing(abilities=row)), [-7], row)
        for row in ([0], [1], [0, 1], [1, 1]):
            self.assertEqual(last(*two, thing(abilities=row)), [0, 1], row)
        self.assertEqual(last(*TOLD[1:], thing(abilities=[15])), [-7])
        self.assertEqual(run(thing(abilities=[0]), ability([], GROW), thing(abilities=[0])), [[-7], [0, 0], [0, 1]])

    def test_ten_and_one_more(self):
        found = run(*([thing()] * 12))
        self.assertEqual(found, [[0, number] for number in range(1, 11)] + [[-1], [-1]])

    def test_room_again_behind_a_remove(self):
        found = run(*([thing()] * 11 + [remove(4), thing(), thing(), remove(11), remove(1), thing(), thing(), thing()]))
        self.assertEqual(found[10:], [[-1], [0], [0, 11], [-1], [0], [0], [0, 12], [0, 13], [-1]])

    def test_which_refusal_comes_first(self):
        full = [thing()] * 10
        self.assertEqual(last(*full, thing(side=2)), [-2])
        self.assertEqual(last(*full, thing(kinds=[3])), [-2])
        self.assertEqual(last(*full, thing(abilities=[16])), [-2])
        self.assertEqual(last(*full, thing(subtypes=[9], abilities=[0])), [-2])
        self.assertEqual(last(*full, thing(abilities=[0])), [-1])
        self.assertEqual(last(thing(bent=2, abilities=[0])), [-2])
        self.assertEqual(last(thing(colours=[1, 1], abilities=[0])), [-2])
        self.assertEqual(last(thing(abilities=[0, 16])), [-2])
        self.assertEqual(last(thing(abilities=[0, 0, 0])), [-2])

    def test_a_refused_thing_changes_nothing(self):
        refused = [thing(side=2), thing(kinds=[0, 0]), thing(abilities=[0]), thing(abilities=[-1])]
        found = run(*(refused * 4 + [thing()] * 10 + [thing()] * 3 + [fresh(11), remove(10), thing()]))
        self.assertEqual(found[:16], [[-2], [-2], [-7], [-2]] * 4)
        self.assertEqual(found[16:], [[0, number] for number in range(1, 11)] + [[-1]] * 3 + [[-3], [0], [0, 11]])


class Remove(unittest.TestCase):
    def test_numbers_are_never_given_twice(self):
        found = run(thing(), remove(1), thing(), thing(), remove(3), thing(), remove(2), remove(4), thing())
        self.assertEqual(found, [[0, 1], [0], [0, 2], [0, 3], [0], [0, 4], [0], [0], [0, 5]])

    def test_no_such_thing(self):
        for n in (-BIG, -1, 0, 1, BIG):
            self.assertEqual(last(remove(n)), [-3], n)
        for n in (-BIG, -1, 0, 3, BIG):
            self.assertEqual(last(thing(), thing(), remove(n)), [-3], n)

    def test_a_thing_is_removed_once(self):
        self.assertEqual(run(thing(), remove(1), remove(1)), [[0, 1], [0], [-3]])

    def test_only_the_thing_named_is_there_no_more(self):
        found = run(thing(), thing(), thing(), remove(2), fresh(1), fresh(2), fresh(3))
        self.assertEqual(found[4:], [[0], [-3], [0]])

    def test_what_is_removed_is_there_for_no_call(self):
        gone = [thing(), remove(1)]
        for one in (count(1, 0, 0), bend(1, 0), fresh(1), own(1, 0), effect(0, [1], GROW), effect(0, [], [0, 1])):
            self.assertEqual(last(*gone, one), [-3])

    def test_its_abilities_stay_told(self):
        self.assertEqual(run(ability([], GROW), thing(abilities=[0]), remove(1), thing(abilities=[0]), ability([], GROW)),
                         [[0, 0], [0, 1], [0], [0, 2], [0, 1]])

    def test_a_refused_remove_changes_nothing(self):
        found = run(*([thing()] * 10 + [remove(11), remove(0), remove(-1), thing(), remove(10), thing()]))
        self.assertEqual(found[10:], [[-3], [-3], [-3], [-1], [0], [0, 11]])


if __name__ == "__main__":
    unittest.main()
