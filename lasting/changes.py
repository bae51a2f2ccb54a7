"""The calls that change the field.

Each takes the field, the whole numbers and the lists of the call, and
answers a list of numbers. Refusals are looked for in the order in which
they are due, before anything is changed.
"""

from lasting.forms import ABILITY_NUMBERS, BENT, COUNTERS, SIDE, THING_NUMBERS, THING_ROW
from lasting.forms import COLOURS, KEYWORDS, KINDS, SUBTYPES
from lasting.forms import all_within, are_parts, copied_things, fits_ranges, is_distinct, is_group, within
from lasting.refusals import BAD_FORM, COPY_PART, NO_EFFECT, NO_ROOM, NO_THING, NOT_TOLD, PART_COUNT

MOST_ABILITIES = 16
MOST_THINGS = 10
MOST_LOOSE = 10
MOST_PARTS = 4
MOST_SUBTYPES = 4
MOST_ABILITIES_OF_THING = 2
MOST_THINGS_OF_EFFECT = 10


def wrong_part_count(parts):
    return len(parts) == 0 or len(parts) > MOST_PARTS


def tell_ability(field, numbers, rows):
    group = rows[0]
    parts = rows[1:]
    if not is_group(group) or not are_parts(parts):
        return [BAD_FORM]
    if len(field.abilities) >= MOST_ABILITIES:
        return [NO_ROOM]
    if wrong_part_count(parts):
        return [PART_COUNT]
    if len(copied_things(parts)) > 0:
        return [COPY_PART]
    return [0, field.add_ability(group, parts)]


def are_thing_rows(rows):
    if len(rows[1]) > MOST_SUBTYPES or len(rows[4]) > MOST_ABILITIES_OF_THING:
        return False
    ranges = (KINDS, SUBTYPES, COLOURS, KEYWORDS)
    if not all([is_distinct(row, limits) for row, limits in zip(rows[:4], ranges)]):
        return False
    # One ability may stand twice.
    return all_within(rows[4], ABILITY_NUMBERS)


def put_thing(field, numbers, rows):
    if not fits_ranges(numbers, THING_ROW) or not are_thing_rows(rows):
        return [BAD_FORM]
    if len(field.things) >= MOST_THINGS:
        return [NO_ROOM]
    if any([number >= len(field.abilities) for number in rows[4]]):
        return [NOT_TOLD]
    return [0, field.add_thing(numbers, rows)]


def remove_thing(field, numbers, rows):
    if numbers[0] not in field.things:
        return [NO_THING]
    field.things.pop(numbers[0])
    return [0]


def is_thing_list(row):
    return len(row) <= MOST_THINGS_OF_EFFECT and is_distinct(row, THING_NUMBERS)


def start_effect(field, numbers, rows):
    side = numbers[0]
    things = rows[0]
    parts = rows[1:]
    if not within(side, SIDE) or not is_thing_list(things) or not are_parts(parts):
        return [BAD_FORM]
    if len(field.loose) >= MOST_LOOSE:
        return [NO_ROOM]
    if wrong_part_count(parts):
        return [PART_COUNT]
    if not field.has_things(things + copied_things(parts)):
        return [NO_THING]
    return [0, field.add_loose(side, things, parts)]


def fade_effect(field, numbers, rows):
    if numbers[0] not in field.loose:
        return [NO_EFFECT]
    field.loose.pop(numbers[0])
    return [0]


def set_counters(field, numbers, rows):
    if numbers[0] not in field.things:
        return [NO_THING]
    if not all_within(numbers[1:], COUNTERS):
        return [BAD_FORM]
    thing = field.things[numbers[0]]
    thing.plus = numbers[1]
    thing.minus = numbers[2]
    return [0]


def bend_thing(field, numbers, rows):
    if numbers[0] not in field.things:
        return [NO_THING]
    if not within(numbers[1], BENT):
        return [BAD_FORM]
    thing = field.things[numbers[0]]
    thing.bent = numbers[1]
    return [0]


def freshen_thing(field, numbers, rows):
    if numbers[0] not in field.things:
        return [NO_THING]
    thing = field.things[numbers[0]]
    thing.stamp = field.take_stamp()
    return [0]


def own_thing(field, numbers, rows):
    if numbers[0] not in field.things:
        return [NO_THING]
    if not within(numbers[1], SIDE):
        return [BAD_FORM]
    thing = field.things[numbers[0]]
    thing.side = numbers[1]
    return [0]


CHANGES = {
    0: tell_ability,
    1: put_thing,
    2: remove_thing,
    3: start_effect,
    4: fade_effect,
    5: set_counters,
    6: bend_thing,
    7: freshen_thing,
    8: own_thing,
}


def is_change(number):
    return number in CHANGES


def change(field, number, numbers, rows):
    return CHANGES[number](field, numbers, rows)
