"""What lies on the field, and what lasts there."""


class Thing:
    """A thing with its printed qualities."""

    def __init__(self, number, numbers, rows, stamp):
        self.number = number
        self.side = numbers[0]
        self.bent = numbers[1]
        self.power = numbers[2]
        self.body = numbers[3]
        self.kinds = rows[0]
        self.subtypes = rows[1]
        self.colours = rows[2]
        self.keywords = rows[3]
        self.abilities = rows[4]
        self.plus = 0
        self.minus = 0
        self.stamp = stamp


class Ability:
    """A standing ability; an empty group is the thing alone that has it."""

    def __init__(self, group, parts):
        self.group = group
        self.parts = parts


class Loose:
    """A loose effect; its things may have been removed meanwhile."""

    def __init__(self, number, side, things, parts, stamp):
        self.number = number
        self.side = side
        self.things = things
        self.parts = parts
        self.stamp = stamp


class Field:
    """All that is there, and the last numbers given, which never come again."""

    def __init__(self):
        self.things = {}
        self.abilities = []
        self.loose = {}
        self.last_thing = 0
        self.last_loose = 0
        self.last_stamp = 0

    def take_stamp(self):
        self.last_stamp += 1
        return self.last_stamp

    def add_ability(self, group, parts):
        self.abilities.append(Ability(group, parts))
        return len(self.abilities) - 1

    def add_thing(self, numbers, rows):
        self.last_thing += 1
        number = self.last_thing
        self.things[number] = Thing(number, numbers, rows, self.take_stamp())
        return number

    def add_loose(self, side, things, parts):
        self.last_loose += 1
        number = self.last_loose
        self.loose[number] = Loose(number, side, things, parts, self.take_stamp())
        return number

    def has_things(self, numbers):
        return all([number in self.things for number in numbers])
