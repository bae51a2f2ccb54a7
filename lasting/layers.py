"""The way through the eight layers, from the printed qualities."""

from lasting.effects import ability_effects, loose_effects
from lasting.hanging import Moment
from lasting.parts import changed_shapes
from lasting.shapes import printed_shapes, with_counters

LAYERS = (1, 8)
ABILITY_LAYER = 2
COUNTER_LAYER = 7


class Reckoning:
    """What things are behind the layers gone through so far, and what was applied on the way."""

    def __init__(self, field):
        self.shapes = printed_shapes(field.things)
        self.effects = loose_effects(field)
        # Each effect applied, with its layer.
        self.applied = []
        # By layers: the pairs that hang on one another in front of it.
        self.pairs_in_front = {}

    def still_there(self, effects):
        return [effect for effect in effects if effect.is_there(self.shapes)]

    def apply(self, effect, layer):
        readings = effect.readings(layer, self.shapes)
        numbers = effect.targets(self.shapes)
        effect.settle(layer, numbers)
        self.shapes = changed_shapes(self.shapes, numbers, readings)
        self.applied.append((layer, effect))

    def go_through(self, layer):
        waiting = [effect for effect in self.effects if layer in effect.layers]
        moment = Moment(self.still_there(waiting), layer, self.shapes)
        self.pairs_in_front[layer] = moment.pairs()
        while len(moment.left) > 0:
            chosen = moment.next_effect()
            self.apply(chosen, layer)
            waiting = [effect for effect in moment.left if effect != chosen]
            moment = Moment(self.still_there(waiting), layer, self.shapes)


def reckon(field):
    reckoning = Reckoning(field)
    for layer in range(LAYERS[0], LAYERS[1] + 1):
        if layer == ABILITY_LAYER:
            reckoning.effects.extend(ability_effects(field, reckoning.shapes))
        if layer == COUNTER_LAYER:
            reckoning.shapes = with_counters(reckoning.shapes, field.things)
        reckoning.go_through(layer)
    return reckoning
