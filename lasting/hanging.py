"""What hangs on what in a layer, and which effect is next."""

from lasting.parts import changed_shapes


class View:
    """An effect that is there, as it is at a moment in a layer: to what it applies, and how its parts are read."""

    def __init__(self, effect, layer, shapes):
        self.effect = effect
        self.layer = layer
        self.numbers = effect.targets(shapes)
        self.read_as = effect.readings(layer, shapes)

    def would_differ(self, shapes):
        """Whether the effect would be otherwise, were things of these shapes."""
        if not self.effect.is_there(shapes) or self.effect.targets(shapes) != self.numbers:
            return True
        # Reading is what takes long: so no further than to the first part that is read otherwise.
        for part, reading in zip(self.effect.layers[self.layer], self.read_as):
            if self.effect.reading(part, shapes) != reading:
                return True
        return False


def by_stamp(effect):
    return (effect.stamp, effect.place)


class Moment:
    """The effects left in a layer, in order of their names, with things as they are at one moment.

    Effects stand for themselves by their places in that order. Whatever is
    found out of them is kept, as nothing changes within a moment.
    """

    def __init__(self, effects, layer, shapes):
        self.left = effects
        self.views = [View(effect, layer, shapes) for effect in effects]
        self.shapes_behind = [changed_shapes(shapes, view.numbers, view.read_as) for view in self.views]
        self.direct = {}
        self.reached = {}

    def hangs(self, first, second):
        return first != second and self.views[first].would_differ(self.shapes_behind[second])

    def hangs_on(self, first):
        """The places of those on which the first one hangs."""
        if first not in self.direct:
            self.direct[first] = [second for second in range(len(self.left)) if self.hangs(first, second)]
        return self.direct[first]

    def hangs_by_steps_on(self, first):
        """The places of those on which the first one hangs by steps, as the keys of a dict."""
        if first not in self.reached:
            found = {}
            waiting = list(self.hangs_on(first))
            while len(waiting) > 0:
                second = waiting.pop()
                if second not in found:
                    found[second] = True
                    waiting.extend(self.hangs_on(second))
            self.reached[first] = found
        return self.reached[first]

    def is_free(self, first):
        return all([first in self.hangs_by_steps_on(second) for second in self.hangs_by_steps_on(first)])

    def next_effect(self):
        ranked = sorted(range(len(self.left)), key=lambda place: by_stamp(self.left[place]))
        rank = 0
        # There is always a free one: from any effect, steps lead to one that can't be left by steps.
        while not self.is_free(ranked[rank]):
            rank += 1
        return self.left[ranked[rank]]

    def pairs(self):
        """The names of the two of each pair of which the first hangs on the second, one behind another."""
        names = []
        for first, effect in enumerate(self.left):
            for second in self.hangs_on(first):
                names.extend(effect.name() + self.left[second].name())
        return names
