"""Copies, and what stays a thing's own."""

import unittest

from tests.helper import (
    GROW, ability, count, effect, everything, fit, fresh, last, look, needs, order, own, remove, run, thing, touched, which,
    why,
)

A = thing(0, 0, 1, 10, [0], [10], [0], [0])
B = thing(1, 1, 2, 20, [1], [11, 20], [1], [1])
C = thing(0, 1, 3, 30, [2], [12], [2], [2])
# What the two of them are behind their sides.
A_REST = [1, 10, 1, 1, 1, 0, 10]
B_REST = [2, 20, 2, 2, 2, 0, 11, 20]
C_REST = [3, 30, 4, 4, 4, 0, 12]


def rests(*calls):
    """What the three things are, without their sides."""
    found = run(A, B, C, *calls, look(1), look(2), look(3))
    return [answer[2:] for answer in found[-3:]]


class WhatIsCopied(unittest.TestCase):
    def test_a_copy(self):
        self.assertEqual(rests(effect(0, [1], [0, 2])), [B_REST, B_REST, C_REST])

    def test_of_a_thing_that_is_itself_a_copy(self):
        for copies in ([(1, 2), (2, 3)], [(2, 3), (1, 2)]):
            calls = [effect(0, [thing_number], [0, copied]) for thing_number, copied in copies]
            self.assertEqual(rests(*calls), [C_REST, C_REST, C_REST])

    def test_the_copied_copy_goes_first_whichever_is_older(self):
        calls = [A, B, C, effect(0, [1], [0, 2]), effect(0, [2], [0, 3])]
        self.assertEqual(run(*calls, needs(1), order(1))[5:], [[0, 0, 1, 0, 2], [0, 0, 2, 0, 1]])
        calls = [A, B, C, effect(0, [2], [0, 3]), effect(0, [1], [0, 2])]
        self.assertEqual(run(*calls, needs(1), order(1))[5:], [[0, 0, 2, 0, 1], [0, 0, 1, 0, 2]])

    def test_a_row_of_copies(self):
        things = [thing(power=power) for power in range(6)]
        copies = [effect(0, [number], [0, number + 1]) for number in range(1, 6)]
        found = run(*things, *copies, order(1), everything())[-2:]
        self.assertEqual(found[0], [0, 0, 5, 0, 4, 0, 3, 0, 2, 0, 1])
        self.assertEqual(found[1][3::4], [5] * 6)

    def test_two_things_that_copy_each_other(self):
        calls = [effect(0, [1], [0, 2]), effect(0, [2], [0, 1])]
        self.assertEqual(rests(*calls), [B_REST, B_REST, C_REST])
        self.assertEqual(rests(*reversed(calls)), [A_REST, A_REST, C_REST])
        self.assertEqual(last(A, B, *calls, needs(1)), [0, 0, 1, 0, 2, 0, 2, 0, 1])
        self.assertEqual(last(A, B, *calls, order(1)), [0, 0, 1, 0, 2])

    def test_two_things_in_one_effect(self):
        self.assertEqual(rests(effect(0, [1, 2], [0, 3])), [C_REST, C_REST, C_REST])
        self.assertEqual(rests(effect(0, [1, 2], [0, 1])), [A_REST, A_REST, C_REST])
        self.assertEqual(rests(effect(0, [1, 2], [0, 2], [0, 1])), [A_REST, A_REST, C_REST])

    def test_of_itself(self):
        self.assertEqual(rests(effect(0, [1], [0, 1])), [A_REST, B_REST, C_REST])
        self.assertEqual(run(A, effect(0, [1], [0, 1]), order(1), needs(1), touched(0, 1), why(1))[2:],
                         [[0, 0, 1], [0], [0, 1, 1], [0, 1, 0, 1]])

    def test_of_a_thing_that_has_been_removed_since(self):
        calls = [A, B, effect(0, [1], [0, 2], GROW), remove(2)]
        self.assertEqual(last(*calls, look(1)), [0, 0, 2, 11] + A_REST[2:])
        self.assertEqual(run(*calls, order(1), touched(0, 1), why(1))[4:], [[0, 0, 1], [0, 1, 1], [0, 1, 0, 1, 7, 0, 1]])

    def test_one_part_reads_nothing_the_other_a_copy(self):
        self.assertEqual(last(A, B, C, effect(0, [1], [0, 3], [0, 2]), remove(2), look(1))[2:], C_REST)
        self.assertEqual(last(A, B, C, effect(0, [1], [0, 2], [0, 3]), remove(2), look(1))[2:], C_REST)

    def test_the_copied_thing_is_as_layer_1_leaves_it(self):
        self.assertEqual(rests(effect(0, [1], [0, 2]), effect(0, [2], GROW, [2, 2], [6, 3], [8, 9])),
                         [B_REST, [3, 21, 6, 8, 514, 0, 11, 20], C_REST])

    def test_the_same_sets_told_in_another_order_are_no_change(self):
        told = [ability(fit(head=99), GROW), ability(fit(head=98), GROW)]
        same = [thing(kinds=[0, 2], subtypes=[10, 11, 12], colours=[1, 3], keywords=[4, 5], abilities=[0, 1]),
                thing(kinds=[2, 0], subtypes=[12, 10, 11], colours=[3, 1], keywords=[5, 4], abilities=[0, 1])]
        copies = [effect(0, [3], [0, 1]), effect(0, [1], [0, 2])]
        self.assertEqual(run(*told, *same, thing(), *copies, needs(1), order(1))[-2:], [[0], [0, 0, 1, 0, 2]])
        # A row of abilities is no set.
        same[1] = thing(kinds=[2, 0], subtypes=[12, 10, 11], colours=[3, 1], keywords=[5, 4], abilities=[1, 0])
        self.assertEqual(run(*told, *same, thing(), *copies, needs(1), order(1))[-2:], [[0, 0, 1, 0, 2], [0, 0, 2, 0, 1]])

    def test_each_copied_quality_is_read(self):
        told = [ability(fit(head=99), GROW)]
        for named in (dict(kinds=[1]), dict(subtypes=[10]), dict(colours=[1]), dict(keywords=[1]), dict(power=1),
                      dict(body=1), dict(abilities=[0])):
            calls = [*told, thing(), thing(**named), thing(), effect(0, [3], [0, 1]), effect(0, [1], [0, 2])]
            self.assertEqual(last(*calls, needs(1)), [0, 0, 1, 0, 2], named)
        for named in (dict(side=1), dict(bent=1)):
            calls = [*told, thing(), thing(**named), thing(), effect(0, [3], [0, 1]), effect(0, [1], [0, 2])]
            self.assertEqual(last(*calls, needs(1)), [0], named)


class Abilities(unittest.TestCase):
    def test_a_copy_has_the_abilities_of_what_it_copies(self):
        told = [ability([], [12, 1, 0]), ability([], [12, 10, 0])]
        calls = [*told, thing(abilities=[0]), thing(abilities=[1, 1])]
        self.assertEqual(run(*calls, order(7), everything())[4:], [[0, 1, 0, 2, 0, 2, 1], [0, 1, 0, 1, 0, 2, 0, 20, 0]])
        found = run(*calls, effect(0, [1], [0, 2]), order(7), everything(), look(1), touched(1, 1))[5:]
        self.assertEqual(found, [[0, 1, 0, 1, 1, 2, 0, 2, 1], [0, 1, 0, 20, 0, 2, 0, 20, 0], [0, 0, 20, 0, 0, 0, 0, 2],
                                 [0, 7, 1]])

    def test_a_copy_of_one_without_abilities_has_none(self):
        calls = [ability([], GROW), thing(abilities=[0]), thing(), effect(0, [1], [0, 2])]
        self.assertEqual(run(*calls, order(7), touched(1, 0), look(1))[4:], [[0], [-4], [0] * 8])

    def test_a_copys_filter_speaks_of_the_copy(self):
        calls = [ability(fit(other=1, whose=1), GROW), thing(0, abilities=[0]), thing(1), thing(1), effect(0, [2], [0, 1])]
        self.assertEqual(run(*calls, touched(1, 0), touched(2, 0))[5:], [[0, 7], [0, 7, 3]])

    def test_a_copy_is_blank_by_itself(self):
        calls = [ability([], GROW), thing(abilities=[0]), thing(), effect(0, [2], [0, 1]), effect(0, [1], [10])]
        self.assertEqual(run(*calls, order(7), everything())[5:], [[0, 2, 0], [0, 1, 0, 0, 0, 2, 0, 1, 1]])


class WhatStaysItsOwn(unittest.TestCase):
    def test_side(self):
        calls = [A, B, effect(1, [1], [0, 2])]
        self.assertEqual(last(*calls, everything()), [0, 1, 0, 2, 20, 2, 1, 2, 20])
        self.assertEqual(last(*calls, own(1, 1), own(2, 0), everything()), [0, 1, 1, 2, 20, 2, 0, 2, 20])

    def test_bent(self):
        self.assertEqual(last(A, B, effect(0, [1], [0, 2]), which(0, fit(bent=1))), [0, 2])
        self.assertEqual(last(A, B, effect(0, [2], [0, 1]), which(0, fit(bent=1))), [0, 2])

    def test_counters(self):
        calls = [A, B, count(1, 5, 0), count(2, 0, 100), effect(0, [1], [0, 2])]
        self.assertEqual(last(*calls, everything()), [0, 1, 0, 7, 25, 2, 1, -98, -80])

    def test_time_stamp(self):
        calls = [ability([], [12, 1, 0]), thing(), thing(abilities=[0]), effect(0, [1], [0, 2]), effect(0, [1], GROW)]
        self.assertEqual(last(*calls, order(7)), [0, 1, 0, 2, 0, 0, 2])
        self.assertEqual(last(*calls, fresh(1), order(7)), [0, 2, 0, 0, 2, 1, 0])
        self.assertEqual(last(*calls, fresh(2), order(7)), [0, 1, 0, 0, 2, 2, 0])


if __name__ == "__main__":
    unittest.main()
