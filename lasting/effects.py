"""Effects on their way through the layers: whose they are, whether they are there, to what they apply."""

from lasting.fitting import fitting_things
from lasting.parts import parts_by_layer, read


class Effect:
    """A loose effect, or the effect of a standing ability that a thing has.

    Owner and place are its name: the thing whose ability it is and the
    ability's place, or 0 and the loose effect's number.
    """

    def __init__(self, owner, place, stamp, parts):
        self.owner = owner
        self.place = place
        self.stamp = stamp
        self.layers = parts_by_layer(parts)
        self.told_side = 0
        self.listed = []
        self.group = []
        self.first_layer = 0
        self.settled = []

    def name(self):
        return [self.owner, self.place]

    def is_loose(self):
        return self.owner == 0

    def is_settled(self):
        return self.first_layer > 0

    def settle(self, layer, numbers):
        if not self.is_settled():
            self.first_layer = layer
            self.settled = numbers

    def is_there(self, shapes):
        if self.is_loose() or self.is_settled():
            return True
        # Behind layer 1 only being blank takes abilities away, and takes all of them.
        return len(shapes[self.owner].abilities) > 0

    def current_side(self, shapes):
        if self.is_loose():
            return self.told_side
        return shapes[self.owner].side

    def targets(self, shapes):
        """The numbers of the things to which it applies, in order."""
        if self.is_settled():
            return self.settled
        if len(self.group) == 0:
            return self.listed
        return fitting_things(self.group, shapes, self.owner, self.current_side(shapes))

    def reading(self, part, shapes):
        return read(part, shapes, self.owner, self.current_side(shapes))

    def readings(self, layer, shapes):
        return [self.reading(part, shapes) for part in self.layers[layer]]


def loose_effect(loose, things):
    effect = Effect(0, loose.number, loose.stamp, loose.parts)
    effect.told_side = loose.side
    effect.listed = [number for number in sorted(loose.things) if number in things]
    return effect


def ability_effect(thing, place, ability):
    effect = Effect(thing.number, place, thing.stamp, ability.parts)
    effect.group = ability.group
    if len(ability.group) == 0:
        effect.listed = [thing.number]
    return effect


def loose_effects(field):
    return [loose_effect(field.loose[number], field.things) for number in sorted(field.loose)]


def ability_effects(field, shapes):
    """The effects of all abilities that things have by their shapes, in order of things and places."""
    effects = []
    for number, shape in shapes.items():
        for place, ability in enumerate(shape.abilities):
            effects.append(ability_effect(field.things[number], place, field.abilities[ability]))
    return effects
