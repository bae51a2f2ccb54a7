"""Calls written by name, laid out as lasting.duel.answers wants them."""

import copy

from lasting.duel import answers, play

BIG = 1000000000
ANY = [0, 0, 0, 0, 0, 0, 0, 0]
GROW = [12, 1, 1]
BLANK = [10]


def call(number, numbers, rows):
    laid_out = [number, len(numbers)] + list(numbers) + [len(rows)]
    for row in rows:
        laid_out += [len(row)] + list(row)
    return laid_out


def ability(group, *parts):
    return call(0, [], [group] + list(parts))


def thing(side=0, bent=0, power=0, body=0, kinds=(), subtypes=(), colours=(), keywords=(), abilities=()):
    return call(1, [side, bent, power, body], [kinds, subtypes, colours, keywords, abilities])


def remove(n):
    return call(2, [n], [])


def effect(side, things, *parts):
    return call(3, [side], [things] + list(parts))


def fade(e):
    return call(4, [e], [])


def count(n, plus, minus):
    return call(5, [n, plus, minus], [])


def bend(n, b):
    return call(6, [n, b], [])


def fresh(n):
    return call(7, [n], [])


def own(n, side):
    return call(8, [n, side], [])


def look(n):
    return call(9, [n], [])


def printed(n):
    return call(10, [n], [])


def everything():
    return call(11, [], [])


def order(layer):
    return call(12, [layer], [])


def needs(layer):
    return call(13, [layer], [])


def which(side, row):
    return call(14, [side], [row])


def touched(a, b):
    return call(15, [a, b], [])


def why(n):
    return call(16, [n], [])


def counts():
    return call(17, [], [])


def fit(other=0, whose=0, bent=0, colour=None, head=0, keyword=None, power=None):
    """A filter; colour and keyword by their own numbers."""
    named = [0 if value is None else value + 1 for value in (colour, keyword)]
    return [other, whose, bent, named[0], head, named[1], int(power is not None), power or 0]


def join(calls):
    laid_out = []
    for one in calls:
        laid_out += one
    return laid_out


def split(laid_out):
    """The answers, one list each."""
    found = []
    at = 0
    while at < len(laid_out):
        end = at + 1 + laid_out[at]
        if end > len(laid_out):
            raise ValueError("an answer is cut off")
        found.append(laid_out[at + 1:end])
        at = end
    return found


def run(*calls):
    return split(answers(join(calls)))


def run_on(field, *calls):
    return split(play(field, join(calls)))


def last(*calls):
    found = run(*calls)
    if len(found) != len(calls):
        raise ValueError("not one answer for each call")
    return found[-1]


def state(field):
    """All that a field holds, as plain values, apart from the field itself."""
    kept = copy.deepcopy(vars(field))
    kept["things"] = {number: vars(one) for number, one in kept["things"].items()}
    kept["abilities"] = [vars(one) for one in kept["abilities"]]
    kept["loose"] = {number: vars(one) for number, one in kept["loose"].items()}
    return kept
