"""What things are at one moment."""


class Shape:
    """What a thing is at one moment.

    Its lists are given anew, never changed, so a shape made from another
    may hold the same ones.
    """

    def __init__(self, thing):
        self.number = thing.number
        self.side = thing.side
        self.bent = thing.bent
        self.power = thing.power
        self.body = thing.body
        self.kinds = thing.kinds
        self.subtypes = thing.subtypes
        self.colours = thing.colours
        self.keywords = thing.keywords
        self.abilities = thing.abilities


def printed_shape(thing):
    shape = Shape(thing)
    # Sets are told in any order: only in rising order are the same ones equal lists.
    shape.kinds = sorted(thing.kinds)
    shape.subtypes = sorted(thing.subtypes)
    shape.colours = sorted(thing.colours)
    shape.keywords = sorted(thing.keywords)
    return shape


def printed_shapes(things):
    """The printed shapes of things by their numbers, in order of these."""
    shapes = {}
    for number in sorted(things):
        shapes[number] = printed_shape(things[number])
    return shapes


def with_counters(shapes, things):
    """The shapes with the plus counters added to power and body, and the minus counters taken from both."""
    counted = {}
    for number, shape in shapes.items():
        added = things[number].plus - things[number].minus
        grown = Shape(shape)
        grown.power += added
        grown.body += added
        counted[number] = grown
    return counted


def sum_of_powers(members):
    """The sum of 2 to the power of each member, of kinds, colours or keywords."""
    total = 0
    for member in members:
        power = 1
        for step in range(member):
            power += power
        total += power
    return total


def told(shape):
    sums = [sum_of_powers(shape.kinds), sum_of_powers(shape.colours), sum_of_powers(shape.keywords)]
    return [shape.side, shape.power, shape.body] + sums + [len(shape.abilities)] + shape.subtypes
