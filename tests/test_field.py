"""What the calls leave on the field: printed qualities, effects, time stamps."""

import unittest

from lasting.field import Field
from tests.helper import ANY, BLANK, GROW, ability, bend, count, effect, fade, fresh, own, remove, run_on, state, thing


def stamps(field):
    return [one.stamp for one in field.things.values()], [one.stamp for one in field.loose.values()]


class WhatIsKept(unittest.TestCase):
    def setUp(self):
        self.field = Field()

    def test_all_is_empty_at_the_beginning(self):
        self.assertEqual(state(self.field), {
            "things": {}, "abilities": [], "loose": {}, "last_thing": 0, "last_loose": 0, "last_stamp": 0,
        })

    def test_an_ability(self):
        run_on(self.field, ability([], BLANK), ability(ANY, GROW, [1]))
        self.assertEqual(state(self.field)["abilities"], [
            {"group": [], "parts": [BLANK]}, {"group": ANY, "parts": [GROW, [1]]},
        ])

    def test_a_thing(self):
        run_on(self.field, ability([], BLANK), ability([], GROW))
        run_on(self.field, thing(1, 0, 3, -4, [2, 0], [12, 10], [3], [14, 1], [1, 0]))
        self.assertEqual(state(self.field)["things"], {1: {
            "number": 1, "side": 1, "bent": 0, "power": 3, "body": -4, "kinds": [2, 0], "subtypes": [12, 10],
            "colours": [3], "keywords": [14, 1], "abilities": [1, 0], "plus": 0, "minus": 0, "stamp": 1,
        }})

    def test_a_loose_effect(self):
        run_on(self.field, thing(), thing(), effect(1, [2, 1], [0, 1], GROW))
        self.assertEqual(state(self.field)["loose"], {1: {
            "number": 1, "side": 1, "things": [2, 1], "parts": [[0, 1], GROW], "stamp": 3,
        }})

    def test_count_bend_and_own_change_one_thing(self):
        run_on(self.field, thing(), thing(side=1, bent=1), thing())
        before = state(self.field)
        run_on(self.field, count(2, 5, 6), bend(2, 0), own(2, 0))
        before["things"][2].update(plus=5, minus=6, bent=0, side=0)
        self.assertEqual(state(self.field), before)
        run_on(self.field, count(2, 0, 1), bend(2, 1), own(2, 1))
        before["things"][2].update(plus=0, minus=1, bent=1, side=1)
        self.assertEqual(state(self.field), before)

    def test_remove_and_fade_take_one_away(self):
        run_on(self.field, thing(), thing(), effect(0, [1, 2], GROW), effect(0, [1], GROW))
        before = state(self.field)
        run_on(self.field, remove(1), fade(2))
        before["things"].pop(1)
        before["loose"].pop(2)
        self.assertEqual(state(self.field), before)

    def test_what_is_handed_in_is_not_kept(self):
        calls = thing(kinds=[1])
        run_on(self.field, calls)
        self.field.things[1].kinds.append(2)
        self.assertEqual(calls, thing(kinds=[1]))


class TimeStamps(unittest.TestCase):
    def setUp(self):
        self.field = Field()

    def test_things_loose_effects_and_fresh_take_the_next_one(self):
        run_on(self.field, thing(), effect(0, [1], GROW), thing(), fresh(1), effect(0, [], GROW), thing())
        self.assertEqual(stamps(self.field), ([4, 3, 6], [2, 5]))

    def test_other_calls_take_none(self):
        run_on(self.field, thing(), ability([], GROW), thing(), count(1, 1, 1), bend(1, 1), own(1, 1))
        run_on(self.field, effect(0, [], GROW), fade(1), remove(2), thing())
        self.assertEqual(stamps(self.field), ([1, 4], []))

    def test_fresh_gives_the_next_one_each_time(self):
        run_on(self.field, thing(), thing(), fresh(2), fresh(2), fresh(1))
        self.assertEqual(stamps(self.field), ([5, 4], []))


class Refused(unittest.TestCase):
    def refused(self, field, calls):
        before = state(field)
        for one, refusal in calls:
            self.assertEqual(run_on(field, one), [[refusal]])
            self.assertEqual(state(field), before)

    def test_refused_calls_change_nothing(self):
        field = Field()
        run_on(field, ability(ANY, GROW), thing(1, 1, 2, 3, [0], [10], [1], [2], [0]), effect(0, [1], GROW))
        self.refused(field, [
            (ability([1], GROW), -2), (ability([], [15]), -2), (ability([]), -5), (ability([], [0, 1]), -6),
            (thing(side=2), -2), (thing(kinds=[0, 0]), -2), (thing(abilities=[1]), -7),
            (remove(2), -3), (effect(2, [], GROW), -2), (effect(0, []), -5), (effect(0, [2], GROW), -3),
            (effect(0, [1], [0, 2]), -3), (fade(2), -4), (count(2, 1, 1), -3), (count(1, -1, 1), -2),
            (count(1, 1, -1), -2), (bend(2, 0), -3), (bend(1, 2), -2), (fresh(2), -3), (own(2, 0), -3), (own(1, 2), -2),
        ])

    def test_refused_calls_change_nothing_where_all_is_full(self):
        field = Field()
        run_on(field, *([ability([], GROW)] * 16 + [thing()] * 10 + [effect(0, [1], GROW)] * 10))
        self.refused(field, [(ability([], GROW), -1), (thing(), -1), (effect(0, [1], GROW), -1)])


if __name__ == "__main__":
    unittest.main()
