"""Calls written by name, laid out as lasting.duel.answers wants them."""

from lasting.duel import answers, play

BIG = 1000000000
ANY = [0, 0, 0, 0, 0, 0, 0, 0]
GROW = [12, 1, 1]
BLANK = [10]


def call(number, numbers, rows):
    laid_out = [number, len(numbers)] + list(numbers) + [len(rows)]
    for row in rows:
        laid_out += [len(row)] + list(row)
    return laid_out


def ability(group, *parts):
    return call(0, [], [group] + list(parts))


def thing(side=0, bent=0, power=0, body=0, kinds=(), subtypes=(), colours=(), keywords=(), abilities=()):
    return call(1, [side, bent, power, body], [kinds, subtypes, colours, keywords, abilities])


def remove(n):
    return call(2, [n], [])


def effect(side, things, *parts):
    return call(3, [side], [things] + list(parts))


def fade(e):
    return call(4, [e], [])


def count(n, plus, minus):
    return call(5, [n, plus, minus], [])


def bend(n, b):
    return call(6, [n, b], [])


def fresh(n):
    return call(7, [n], [])


def own(n, side):
    return call(8, [n, side], [])


def join(calls):
    laid_out = []
    for one in calls:
        laid_out += one
    return laid_out


def split(laid_out):
    """The answers, one list each."""
    found = []
    at = 0
    while at < len(laid_out):
        end = at + 1 + laid_out[at]
        if end > len(laid_out):
            raise ValueError("an answer is cut off")
        found.append(laid_out[at + 1:end])
        at = end
    return found


def run(*calls):
    return split(answers(join(calls)))


def run_on(field, *calls):
    return split(play(field, join(calls)))


def last(*calls):
    found = run(*calls)
    if len(found) != len(calls):
        raise ValueError("not one answer for each call")
    return found[-1]
