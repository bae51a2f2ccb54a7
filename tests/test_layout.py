"""The interface: how calls and answers are laid out, and that nothing is kept or changed."""

import contextlib
import io
import unittest

from lasting.duel import answers
from tests.helper import (
    ANY, BIG, BLANK, GROW, ability, bend, count, counts, effect, everything, fade, fresh, join, last, look, needs, order,
    own, printed, remove, run, thing, touched, which, why,
)


def refuse(*arguments, **named):
    raise AssertionError("the list handed in is changed")


class Sealed(list):
    append = extend = insert = pop = remove = clear = sort = reverse = refuse
    __setitem__ = __delitem__ = __iadd__ = __imul__ = refuse


EVERY_CALL = [
    ability([], BLANK), ability(ANY, GROW), ability([7], GROW), thing(power=2, subtypes=[11, 10], abilities=[0, 1]),
    thing(side=5), effect(1, [1], [0, 1], [1]), effect(0, [9], GROW), count(1, 2, 3), bend(1, 1), fresh(1), own(1, 1),
    look(1), look(9), printed(1), printed(9), everything(), order(5), order(9), needs(5), needs(0), which(0, ANY),
    which(2, ANY), touched(0, 1), touched(1, 1), why(1), why(9), counts(),
    fade(1), fade(1), remove(1), remove(1), counts(), everything(),
]
# The one ability makes its own thing blank, so the other one isn't there in layer 7.
EVERY_ANSWER = [
    2, 0, 0, 2, 0, 1, 1, -2, 2, 0, 1,
    1, -2, 2, 0, 1, 1, -3, 1, 0, 1, 0, 1, 0, 1, 0,
    10, 0, 1, 1, -1, 0, 0, 0, 0, 10, 11, 1, -3, 10, 0, 1, 2, 0, 0, 0, 0, 2, 10, 11, 1, -3,
    5, 0, 1, 1, 1, -1, 3, 0, 1, 0, 1, -2, 1, 0, 1, -2, 2, 0, 1,
    1, -2, 3, 0, 1, 1, 1, -4, 10, 0, 1, 0, 1, 2, 0, 1, 5, 1, 0, 1, -3, 3, 1, 2, 1,
    1, 0, 1, -4, 1, 0, 1, -3, 3, 0, 2, 0, 1, 0,
]


class Layout(unittest.TestCase):
    def test_each_call_as_it_is_laid_out(self):
        self.assertEqual(answers([0, 0, 2, 0, 1, 10]), [2, 0, 0])
        self.assertEqual(answers([0, 0, 3, 8, 1, 2, 1, 4, 10, 15, 1, -5, 3, 12, 1, -1, 1, 14]), [2, 0, 0])
        self.assertEqual(answers([1, 4, 0, 1, 3, -4, 5, 2, 0, 2, 1, 10, 0, 1, 14, 0]), [2, 0, 1])
        self.assertEqual(answers([2, 1, 1, 0]), [1, -3])
        self.assertEqual(answers([3, 1, 1, 2, 0, 1, 1]), [2, 0, 1])
        self.assertEqual(answers([4, 1, 1, 0]), [1, -4])
        self.assertEqual(answers([5, 3, 1, 0, 0, 0]), [1, -3])
        self.assertEqual(answers([6, 2, 1, 0, 0]), [1, -3])
        self.assertEqual(answers([7, 1, 1, 0]), [1, -3])
        self.assertEqual(answers([8, 2, 1, 0, 0]), [1, -3])
        self.assertEqual(answers([9, 1, 1, 0]), [1, -3])
        self.assertEqual(answers([10, 1, 1, 0]), [1, -3])
        self.assertEqual(answers([11, 0, 0]), [1, 0])
        self.assertEqual(answers([12, 1, 8, 0]), [1, 0])
        self.assertEqual(answers([13, 1, 9, 0]), [1, -2])
        self.assertEqual(answers([14, 1, 1, 1, 8, 0, 0, 0, 0, 0, 0, 0, 0]), [1, 0])
        self.assertEqual(answers([14, 1, 1, 1, 0]), [1, -2])
        self.assertEqual(answers([15, 2, 0, 1, 0]), [1, -4])
        self.assertEqual(answers([16, 1, 1, 0]), [1, -3])
        self.assertEqual(answers([17, 0, 0]), [3, 0, 0, 0])

    def test_calls_one_behind_another(self):
        bare = [1, 4, 0, 0, 0, 0, 5, 0, 0, 0, 0, 0]
        calls = bare + [5, 3, 1, 2, 3, 0] + [6, 2, 1, 1, 0] + [7, 1, 1, 0] + [8, 2, 1, 1, 0] + [2, 1, 1, 0] + bare
        self.assertEqual(answers(calls), [2, 0, 1, 1, 0, 1, 0, 1, 0, 1, 0, 1, 0, 2, 0, 2])
        calls = [17, 0, 0] + bare + [17, 0, 0] + [11, 0, 0] + [9, 1, 1, 0] + [2, 1, 1, 0] + [11, 0, 0]
        self.assertEqual(answers(calls),
                         [3, 0, 0, 0, 2, 0, 1, 3, 1, 0, 0, 5, 0, 1, 0, 0, 0, 8, 0, 0, 0, 0, 0, 0, 0, 0, 1, 0, 1, 0])

    def test_every_call_in_one_list(self):
        self.assertEqual(answers(join(EVERY_CALL)), EVERY_ANSWER)

    def test_numbers_that_look_like_calls_are_not_calls(self):
        row = [1, 4, 0, 0, 0, 0, 5, 0, 0, 0, 0, 0]
        self.assertEqual(run(ability(row, row), thing(), thing()), [[-2], [0, 1], [0, 2]])

    def test_two_hundred_calls(self):
        found = run(*([thing(), remove(1)] + [fresh(1)] * 197 + [thing()]))
        self.assertEqual(found, [[0, 1], [0]] + [[-3]] * 197 + [[0, 2]])
        found = run(*([thing(), effect(0, [1], GROW)] + [fresh(1), everything()] * 99))
        self.assertEqual(found, [[0, 1], [0, 1]] + [[0], [0, 1, 0, 1, 1]] * 99)

    def test_a_long_list(self):
        long_call = ability([0] * 50, *([[0] * 50] * 11))
        calls = join([long_call] * 47 + [thing()])
        self.assertGreater(len(calls), 28000)
        self.assertEqual(answers(calls), [1, -2] * 47 + [2, 0, 1])

    def test_the_longest_call(self):
        self.assertEqual(last(ability(ANY, *([[13, 1, 1] + ANY] * 48))), [-5])
        self.assertEqual(last(ability([0] * 50, *([[0] * 50] * 48))), [-2])
        self.assertEqual(last(effect(0, list(range(1, 51)), *([[0] * 50] * 48))), [-2])
        self.assertEqual(last(thing(0, 0, 0, 0, *([[BIG] * 50] * 5))), [-2])


class NothingKept(unittest.TestCase):
    def test_the_list_handed_in_is_the_same_afterwards(self):
        calls = join(EVERY_CALL)
        before = list(calls)
        answers(calls)
        self.assertEqual(calls, before)

    def test_the_list_handed_in_is_not_changed_for_a_while_either(self):
        self.assertEqual(answers(Sealed(join(EVERY_CALL))), EVERY_ANSWER)

    def test_the_same_list_twice_is_answered_twice_the_same(self):
        calls = join(EVERY_CALL)
        self.assertEqual(answers(calls), EVERY_ANSWER)
        self.assertEqual(answers(calls), EVERY_ANSWER)

    def test_full_tables_are_empty_the_next_time(self):
        full = [ability([], GROW)] * 17 + [thing()] * 11 + [effect(0, [], GROW)] * 11
        first = run(*full)
        self.assertEqual([first[16], first[27], first[38]], [[-1], [-1], [-1]])
        self.assertEqual(run(*full), first)
        self.assertEqual(run(thing(abilities=[0])), [[-7]])

    def test_the_answers_are_a_list_of_their_own(self):
        first = answers(thing())
        first.append(7)
        self.assertEqual(answers(thing()), [2, 0, 1])
        self.assertIs(type(first), list)
        self.assertEqual([type(value) for value in answers(join(EVERY_CALL))], [int] * len(EVERY_ANSWER))

    def test_nothing_is_printed(self):
        out = io.StringIO()
        with contextlib.redirect_stdout(out), contextlib.redirect_stderr(out):
            answers(join(EVERY_CALL))
        self.assertEqual(out.getvalue(), "")


if __name__ == "__main__":
    unittest.main()
