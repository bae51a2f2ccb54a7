"""Parts of effects: of which layer they are, how they are read, how they change a thing."""

from lasting.fitting import fitting_things
from lasting.forms import COPY, COUNTING
from lasting.shapes import Shape

COME = 1

# The layer of each part, by the part's number.
PART_LAYERS = (1, 2, 3, 3, 3, 3, 4, 4, 5, 5, 5, 6, 7, 7, 8)


def parts_by_layer(parts):
    layers = {}
    for part in parts:
        layers.setdefault(PART_LAYERS[part[0]], []).append(part)
    return layers


def copied_qualities(shape):
    return [
        shape.kinds, shape.subtypes, shape.colours, shape.keywords, shape.power, shape.body, shape.abilities,
    ]


def read_copy(part, shapes):
    if part[1] not in shapes:
        return [COPY, None]
    return [COPY, copied_qualities(shapes[part[1]])]


def read_counting(part, shapes, owner, side):
    how_many = len(fitting_things(part[3:], shapes, owner, side))
    return [COUNTING, how_many * part[1], how_many * part[2]]


def read(part, shapes, owner, side):
    """The part as it is read at the moment: two readings are equal where nothing is read otherwise."""
    if part[0] == COPY:
        return read_copy(part, shapes)
    if part[0] == COME:
        return [COME, side]
    if part[0] == COUNTING:
        return read_counting(part, shapes, owner, side)
    return part


def with_member(members, member):
    return sorted(set(members + [member]))


def without_member(members, member):
    return [other for other in members if other != member]


def become_copy(shape, reading):
    qualities = reading[1]
    if qualities is None:
        return
    shape.kinds = qualities[0]
    shape.subtypes = qualities[1]
    shape.colours = qualities[2]
    shape.keywords = qualities[3]
    shape.power = qualities[4]
    shape.body = qualities[5]
    shape.abilities = qualities[6]


def come_to_side(shape, reading):
    shape.side = reading[1]


def take_kind(shape, reading):
    shape.kinds = with_member(shape.kinds, reading[1])


def lose_kind(shape, reading):
    shape.kinds = without_member(shape.kinds, reading[1])


def take_subtype(shape, reading):
    shape.subtypes = with_member(shape.subtypes, reading[1])


def set_subtype(shape, reading):
    shape.subtypes = [reading[1]]


def set_colour(shape, reading):
    shape.colours = [reading[1]]


def take_colour(shape, reading):
    shape.colours = with_member(shape.colours, reading[1])


def take_keyword(shape, reading):
    shape.keywords = with_member(shape.keywords, reading[1])


def lose_keyword(shape, reading):
    shape.keywords = without_member(shape.keywords, reading[1])


def become_blank(shape, reading):
    shape.keywords = []
    shape.abilities = []


def set_power_and_body(shape, reading):
    shape.power = reading[1]
    shape.body = reading[2]


def grow(shape, reading):
    shape.power += reading[1]
    shape.body += reading[2]


def exchange(shape, reading):
    power = shape.power
    shape.power = shape.body
    shape.body = power


CHANGED_BY = {
    0: become_copy,
    1: come_to_side,
    2: take_kind,
    3: lose_kind,
    4: take_subtype,
    5: set_subtype,
    6: set_colour,
    7: take_colour,
    8: take_keyword,
    9: lose_keyword,
    10: become_blank,
    11: set_power_and_body,
    12: grow,
    13: grow,
    14: exchange,
}


def changed_shape(shape, readings):
    changed = Shape(shape)
    for reading in readings:
        CHANGED_BY[reading[0]](changed, reading)
    return changed


def changed_shapes(shapes, numbers, readings):
    """The shapes when these things have been changed by the parts, as read, in order."""
    changed = dict(shapes)
    for number in numbers:
        changed[number] = changed_shape(shapes[number], readings)
    return changed
