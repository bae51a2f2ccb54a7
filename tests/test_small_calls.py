"""The calls 5 to 8: count, bend, fresh, own."""

import unittest

from tests.helper import BIG, GROW, ability, bend, count, effect, fresh, last, own, remove, run, thing

NO_THINGS = (-BIG, -1, 0, 3, BIG)


class SmallCalls(unittest.TestCase):
    def two_things(self, one):
        return last(thing(), thing(side=1, bent=1), one)

    def test_ordinary_answers(self):
        for n in (1, 2):
            for one in (count(n, 2, 1), bend(n, 1), bend(n, 0), fresh(n), own(n, 0), own(n, 1)):
                self.assertEqual(self.two_things(one), [0])

    def test_no_such_thing(self):
        for n in NO_THINGS:
            for one in (count(n, 2, 1), bend(n, 1), fresh(n), own(n, 0)):
                self.assertEqual(self.two_things(one), [-3])
                self.assertEqual(last(one), [-3])

    def test_a_removed_thing(self):
        for one in (count(1, 2, 1), bend(1, 1), fresh(1), own(1, 0)):
            self.assertEqual(last(thing(), thing(), remove(1), one), [-3])

    def test_how_many_counters(self):
        for value in (0, 1, BIG):
            self.assertEqual(self.two_things(count(1, value, 0)), [0])
            self.assertEqual(self.two_things(count(1, 0, value)), [0])
        self.assertEqual(self.two_things(count(2, BIG, BIG)), [0])
        for value in (-BIG, -1, BIG + 1):
            self.assertEqual(self.two_things(count(1, value, 0)), [-2])
            self.assertEqual(self.two_things(count(1, 0, value)), [-2])
            self.assertEqual(self.two_things(count(1, value, value)), [-2])

    def test_bent_or_not(self):
        for value in (-BIG, -1, 2, BIG):
            self.assertEqual(self.two_things(bend(1, value)), [-2])

    def test_sides(self):
        for value in (-BIG, -1, 2, BIG):
            self.assertEqual(self.two_things(own(1, value)), [-2])

    def test_no_such_thing_comes_first(self):
        for n in NO_THINGS:
            for one in (count(n, -1, 0), count(n, 0, -1), bend(n, 2), own(n, 2)):
                self.assertEqual(self.two_things(one), [-3])

    def test_again_and_again(self):
        found = run(thing(), bend(1, 1), bend(1, 1), own(1, 0), own(1, 0), count(1, 3, 3), count(1, 3, 3), fresh(1), fresh(1))
        self.assertEqual(found, [[0, 1]] + [[0]] * 8)

    def test_they_number_nothing(self):
        found = run(thing(), count(1, 1, 1), bend(1, 1), fresh(1), own(1, 1), own(1, 7), fresh(2),
                    thing(), effect(0, [2], GROW), ability([], GROW))
        self.assertEqual(found[5:], [[-2], [-3], [0, 2], [0, 1], [0, 0]])


if __name__ == "__main__":
    unittest.main()
