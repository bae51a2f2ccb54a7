"""The calls that ask and change nothing.

Each takes what is known, the whole numbers and the lists of the call, and
answers a list of numbers.
"""

from lasting.fitting import fitting_things
from lasting.forms import SIDE, is_filter, within
from lasting.layers import LAYERS, reckon
from lasting.refusals import BAD_FORM, NO_EFFECT, NO_THING
from lasting.shapes import printed_shape, told


class Known:
    """A field, and what was reckoned of it, which holds until the field is changed."""

    def __init__(self, field):
        self.field = field
        self.kept = None

    def forget(self):
        self.kept = None

    def reckoned(self):
        if self.kept is None:
            self.kept = reckon(self.field)
        return self.kept


def look(known, numbers, rows):
    if numbers[0] not in known.field.things:
        return [NO_THING]
    return [0] + told(known.reckoned().shapes[numbers[0]])


def look_at_printed(known, numbers, rows):
    if numbers[0] not in known.field.things:
        return [NO_THING]
    return [0] + told(printed_shape(known.field.things[numbers[0]]))


def look_at_all(known, numbers, rows):
    answer = [0]
    for number, shape in known.reckoned().shapes.items():
        answer.extend([number, shape.side, shape.power, shape.body])
    return answer


def order_in_layer(known, numbers, rows):
    if not within(numbers[0], LAYERS):
        return [BAD_FORM]
    answer = [0]
    for layer, effect in known.reckoned().applied:
        if layer == numbers[0]:
            answer.extend(effect.name())
    return answer


def needs_in_layer(known, numbers, rows):
    if not within(numbers[0], LAYERS):
        return [BAD_FORM]
    return [0] + known.reckoned().pairs_in_front[numbers[0]]


def which_things(known, numbers, rows):
    if not within(numbers[0], SIDE) or not is_filter(rows[0]):
        return [BAD_FORM]
    return [0] + fitting_things(rows[0], known.reckoned().shapes, 0, numbers[0])


def touched_things(known, numbers, rows):
    for layer, effect in known.reckoned().applied:
        if effect.name() == numbers:
            return [0, layer] + effect.settled
    return [NO_EFFECT]


def why_so(known, numbers, rows):
    if numbers[0] not in known.field.things:
        return [NO_THING]
    answer = [0]
    for layer, effect in known.reckoned().applied:
        if numbers[0] in effect.settled:
            answer.extend([layer] + effect.name())
    return answer


def how_many(known, numbers, rows):
    field = known.field
    return [len(field.things), len(field.abilities), len(field.loose)]


QUESTIONS = {
    9: look,
    10: look_at_printed,
    11: look_at_all,
    12: order_in_layer,
    13: needs_in_layer,
    14: which_things,
    15: touched_things,
    16: why_so,
    17: how_many,
}


def ask(known, number, numbers, rows):
    return QUESTIONS[number](known, numbers, rows)
