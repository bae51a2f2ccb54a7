"""Drawn fields: against a model written by itself, the three promises, and long lists in reasonable time."""

import copy
import random
import time
import unittest

from lasting.duel import answers
from tests.helper import (
    ANY, ability, bend, count, counts, effect, everything, fade, fresh, join, look, needs, order, own, printed, remove, run,
    split, thing, touched, which, why,
)

LAYERS = range(1, 9)
LAYER_OF_PART = {0: 1, 1: 2, 2: 3, 3: 3, 4: 3, 5: 3, 6: 4, 7: 4, 8: 5, 9: 5, 10: 5, 11: 6, 12: 7, 13: 7, 14: 8}
# At which place of a filter what a layer changes is asked for.
PLACE_OF_LAYER = {2: 1, 3: 4, 4: 3, 5: 5, 6: 6, 7: 6, 8: 6}
COPIED = ("kinds", "subtypes", "colours", "keywords", "power", "body", "abilities")


class Drawer:
    """Draws fields on which much hangs: few values, so that effects meet."""

    def __init__(self, seed, things=5, abilities=5, loose=5):
        self.random = random.Random(seed)
        self.things = self.random.randint(1, things)
        self.abilities = self.random.randint(0, abilities)
        self.loose = self.random.randint(0, loose)
        # Mostly few layers, so that many effects are of the same one, and filters that ask for what these change.
        self.layers = self.random.sample(list(LAYERS), self.random.choice([1, 1, 2, 3, 8]))
        self.places = [PLACE_OF_LAYER[layer] for layer in self.layers if layer != 1] * 3 + list(range(7))

    def subset(self, values, most):
        return self.random.sample(values, self.random.randint(0, most))

    def filter(self):
        row = list(ANY)
        draws = {
            0: lambda: 1, 1: lambda: self.random.randint(1, 2), 2: lambda: self.random.randint(1, 2),
            3: lambda: self.random.randint(1, 3), 4: lambda: self.random.choice([1, 2, 3, 10, 11, 12]),
            5: lambda: self.random.randint(1, 3), 6: lambda: 1,
        }
        for step in range(self.random.choice([0, 1, 1, 1, 2])):
            place = self.random.choice(self.places)
            row[place] = draws[place]()
        row[7] = self.random.randint(-1, 5)
        return row

    def part(self, numbers):
        number = self.random.choice(numbers)
        small = self.random.randint(-3, 3), self.random.randint(-3, 3)
        return {
            0: lambda: [0, self.random.randint(1, self.things)], 1: lambda: [1],
            2: lambda: [2, self.random.randint(0, 2)], 3: lambda: [3, self.random.randint(0, 2)],
            4: lambda: [4, self.random.randint(10, 12)], 5: lambda: [5, self.random.randint(10, 12)],
            6: lambda: [6, self.random.randint(0, 2)], 7: lambda: [7, self.random.randint(0, 2)],
            8: lambda: [8, self.random.randint(0, 2)], 9: lambda: [9, self.random.randint(0, 2)],
            10: lambda: [10], 11: lambda: [11, *small], 12: lambda: [12, *small],
            13: lambda: [13, *small, *self.filter()], 14: lambda: [14],
        }[number]()

    def parts(self, numbers):
        return [self.part(numbers) for step in range(self.random.choice([1, 1, 2, 2, 3, 4]))]

    def build(self):
        """Calls that change the field, as (name, arguments), all of them accepted."""
        numbers = [number for number, layer in LAYER_OF_PART.items() if layer in self.layers]
        numbers += self.random.sample([10, 13], self.random.randint(0, 2))
        told = [number for number in numbers if number != 0] or [1]
        calls = []
        for step in range(self.abilities):
            calls.append((ability, [self.random.choice([[], self.filter(), self.filter()]), *self.parts(told)]))
        for step in range(self.things):
            owned = [self.random.randrange(self.abilities) for at in range(self.random.randint(0, 2)) if self.abilities]
            calls.append((thing, [
                self.random.randint(0, 1), self.random.randint(0, 1), self.random.randint(-1, 4), self.random.randint(-1, 4),
                self.subset([0, 1, 2], 2), self.subset([10, 11, 12], 2), self.subset([0, 1, 2], 2),
                self.subset([0, 1, 2], 2), owned,
            ]))
        for step in range(self.loose):
            listed = self.subset(list(range(1, self.things + 1)), self.things)
            calls.append((effect, [self.random.randint(0, 1), listed, *self.parts(numbers)]))
        for step in range(self.random.randint(0, 6)):
            calls.append(self.small_change())
        return calls + self.losses()

    def small_change(self):
        number = self.random.randint(1, self.things)
        return self.random.choice([
            (fresh, [number]), (fresh, [number]), (bend, [number, self.random.randint(0, 1)]),
            (own, [number, self.random.randint(0, 1)]),
            (count, [number, self.random.randint(0, 3), self.random.randint(0, 3)]),
        ])

    def losses(self):
        calls = []
        if self.random.random() < 0.2:
            calls.append((remove, [self.random.randint(1, self.things)]))
        if self.loose and self.random.random() < 0.2:
            calls.append((fade, [self.random.randint(1, self.loose)]))
        return calls


def written(calls):
    return [make(*arguments) for make, arguments in calls]


class Model:
    """The document's words, one by one, with no thought of time: sets and deep copies."""

    def __init__(self, calls):
        self.things, self.abilities, self.loose, self.stamp = {}, [], {}, 0
        self.thing_numbers, self.loose_numbers = 0, 0
        for make, arguments in calls:
            getattr(self, "do_" + make.__name__)(*arguments)

    def next_stamp(self):
        self.stamp += 1
        return self.stamp

    def do_ability(self, group, *parts):
        self.abilities.append((group, parts))

    def do_thing(self, side, bent, power, body, kinds, subtypes, colours, keywords, abilities):
        self.thing_numbers += 1
        self.things[self.thing_numbers] = dict(
            side=side, bent=bent, power=power, body=body, kinds=set(kinds), subtypes=set(subtypes), colours=set(colours),
            keywords=set(keywords), abilities=list(abilities), plus=0, minus=0, stamp=self.next_stamp(), blank=False)

    def do_effect(self, side, listed, *parts):
        self.loose_numbers += 1
        self.loose[self.loose_numbers] = dict(side=side, listed=listed, parts=parts, stamp=self.next_stamp())

    def do_remove(self, number):
        self.things.pop(number)

    def do_fade(self, number):
        self.loose.pop(number)

    def do_count(self, number, plus, minus):
        self.things[number].update(plus=plus, minus=minus)

    def do_bend(self, number, bent):
        self.things[number]["bent"] = bent

    def do_own(self, number, side):
        self.things[number]["side"] = side

    def do_fresh(self, number):
        self.things[number]["stamp"] = self.next_stamp()

    # The reckoning. An effect is its name; now is what things are; first is what was settled, by names.

    def reckon(self):
        self.now = copy.deepcopy(self.things)
        self.first, self.log, self.needs, self.choices = {}, [], {}, []
        self.parts = {(0, number): loose["parts"] for number, loose in self.loose.items()}
        self.stamps = {(0, number): loose["stamp"] for number, loose in self.loose.items()}
        self.groups = {}
        for layer in LAYERS:
            if layer == 2:
                self.add_abilities()
            if layer == 7:
                for one in self.now.values():
                    one["power"] += one["plus"] - one["minus"]
                    one["body"] += one["plus"] - one["minus"]
            self.layer(layer)
        return self

    def add_abilities(self):
        for number, one in self.now.items():
            for place, told in enumerate(one["abilities"]):
                self.groups[number, place], self.parts[number, place] = self.abilities[told]
                self.stamps[number, place] = one["stamp"]

    def of_layer(self, name, layer):
        return [part for part in self.parts[name] if LAYER_OF_PART[part[0]] == layer]

    def there(self, name, now):
        return name[0] == 0 or name in self.first or not now[name[0]]["blank"]

    def side(self, name, now):
        return self.loose[name[1]]["side"] if name[0] == 0 else now[name[0]]["side"]

    def fitting(self, name, row, now, side=None):
        side = self.side(name, now) if side is None else side
        other, whose, bent, colour, head, keyword, named, least = row
        found = set()
        for number, one in now.items():
            heads = {kind + 1 for kind in one["kinds"]} | one["subtypes"]
            fits = [
                not (other == 1 and name[0] == number),
                whose == 0 or one["side"] == (side if whose == 1 else 1 - side),
                bent == 0 or one["bent"] == {1: 1, 2: 0}[bent],
                colour == 0 or colour - 1 in one["colours"],
                head == 0 or head in heads,
                keyword == 0 or keyword - 1 in one["keywords"],
                named == 0 or one["power"] >= least,
            ]
            if all(fits):
                found.add(number)
        return found

    def to_what(self, name, now):
        if name in self.first:
            return self.first[name][1]
        if name[0] == 0:
            return set(self.loose[name[1]]["listed"]) & set(now)
        if self.groups[name] == []:
            return {name[0]}
        return self.fitting(name, self.groups[name], now)

    def read(self, name, layer, now):
        found = []
        for part in self.of_layer(name, layer):
            if part[0] == 0:
                found.append(("copy", copy.deepcopy({key: now[part[1]][key] for key in COPIED}) if part[1] in now else None))
            elif part[0] == 1:
                found.append(("side", self.side(name, now)))
            elif part[0] == 13:
                n = len(self.fitting(name, part[3:], now))
                found.append((12, n * part[1], n * part[2]))
            else:
                found.append(tuple(part))
        return found

    def applied(self, name, layer, now):
        after = copy.deepcopy(now)
        readings = self.read(name, layer, now)
        for number in self.to_what(name, now):
            for reading in readings:
                self.change(after[number], *reading)
        return after

    def change(self, one, what, *values):
        if what == "copy":
            one.update(copy.deepcopy(values[0] or {}))
        elif what == "side":
            one["side"] = values[0]
        elif what in (2, 4, 7, 8):
            one[{2: "kinds", 4: "subtypes", 7: "colours", 8: "keywords"}[what]].add(values[0])
        elif what in (3, 9):
            one[{3: "kinds", 9: "keywords"}[what]].discard(values[0])
        elif what in (5, 6):
            one[{5: "subtypes", 6: "colours"}[what]] = {values[0]}
        elif what == 10:
            one.update(keywords=set(), abilities=[], blank=True)
        elif what == 11:
            one.update(power=values[0], body=values[1])
        elif what == 12:
            one.update(power=one["power"] + values[0], body=one["body"] + values[1])
        elif what == 14:
            one.update(power=one["body"], body=one["power"])

    def hangs(self, a, b, layer):
        after = self.applied(b, layer, self.now)
        return (not self.there(a, after) or self.to_what(a, after) != self.to_what(a, self.now)
                or self.read(a, layer, after) != self.read(a, layer, self.now))

    def layer(self, layer):
        left = sorted(name for name in self.parts if self.of_layer(name, layer))
        self.needs[layer] = None
        while True:
            left = [name for name in left if self.there(name, self.now)]
            pairs = {(a, b) for a in left for b in left if a != b and self.hangs(a, b, layer)}
            if self.needs[layer] is None:
                self.needs[layer] = sorted(pairs)
            if not left:
                return
            steps = set(pairs)
            for middle in left:
                steps |= {(a, b) for a in left for b in left if (a, middle) in steps and (middle, b) in steps}
            free = [a for a in left if all((c, a) in steps for c in left if (a, c) in steps)]
            chosen = min(free, key=lambda name: (self.stamps[name], name[1]))
            self.choices.append((layer, chosen, free, pairs, steps))
            after = self.applied(chosen, layer, self.now)
            self.first.setdefault(chosen, (layer, self.to_what(chosen, self.now)))
            self.now = after
            self.log.append((layer, chosen))
            left.remove(chosen)

    # The answers.

    def told(self, one):
        sums = [sum(2 ** value for value in one[key]) for key in ("kinds", "colours", "keywords")]
        return [one["side"], one["power"], one["body"], *sums, len(one["abilities"]), *sorted(one["subtypes"])]

    def everything(self):
        found = [0]
        for number, one in sorted(self.now.items()):
            found += [number, one["side"], one["power"], one["body"]]
        return found

    def order(self, layer):
        return [0] + [value for at, name in self.log if at == layer for value in name]

    def needed(self, layer):
        return [0] + [value for a, b in self.needs[layer] for value in a + b]

    def touched(self, name):
        return [-4] if name not in self.first else [0, self.first[name][0], *sorted(self.first[name][1])]

    def why(self, number):
        return [0] + [value for at, name in self.log if number in self.first[name][1] for value in (at, *name)]


def asked_of(model, rows):
    """Questions to a reckoned model, and its answers."""
    asked = [(everything(), model.everything()),
             (counts(), [len(model.things), len(model.abilities), len(model.loose)])]
    for number, one in model.now.items():
        asked += [(look(number), [0] + model.told(one)), (printed(number), [0] + model.told(model.things[number])),
                  (why(number), model.why(number))]
    for layer in LAYERS:
        asked += [(order(layer), model.order(layer)), (needs(layer), model.needed(layer))]
    for name in sorted(model.parts) + [(0, 0), (0, 9), (1, 2), (9, 0)]:
        asked.append((touched(*name), model.touched(name)))
    for row in rows:
        for side in (0, 1):
            asked.append((which(side, row), [0] + sorted(model.fitting((0, 0), row, model.now, side))))
    return asked


class AgainstTheModel(unittest.TestCase):
    def test_drawn_fields(self):
        for seed in range(150):
            drawer = Drawer(seed)
            calls = drawer.build()
            asked = asked_of(Model(calls).reckon(), [drawer.filter() for step in range(3)])
            found = run(*written(calls), *[question for question, answer in asked])[len(calls):]
            for (question, answer), given in zip(asked, found, strict=True):
                self.assertEqual(given, answer, (seed, question, written(calls)))

    def test_asked_in_the_middle_of_changes(self):
        for seed in range(30):
            drawer = Drawer(1000 + seed, things=3, abilities=3, loose=3)
            calls = drawer.build()
            mixed, expected = [], []
            for end in range(drawer.abilities + drawer.things, len(calls) + 1):
                mixed += written(calls[:end] if not mixed else calls[end - 1:end])
                expected += [None] * (len(mixed) - len(expected))
                for question, answer in asked_of(Model(calls[:end]).reckon(), []):
                    if len(mixed) < 180:
                        mixed.append(question)
                        expected.append(answer)
            for one, given, answer in zip(mixed, run(*mixed), expected, strict=True):
                self.assertIn(answer, (None, given), (seed, one))


class Promises(unittest.TestCase):
    def test_1_one_is_always_free(self):
        rings = 0
        for seed in range(2000, 2120):
            calls = Drawer(seed).build()
            model = Model(calls).reckon()
            orders = run(*written(calls), *[order(layer) for layer in LAYERS])[len(calls):]
            applied = [(layer, (answer[at], answer[at + 1]))
                       for layer, answer in zip(LAYERS, orders) for at in range(1, len(answer), 2)]
            self.assertEqual(len(applied), len(model.choices))
            for (layer, name), (at, chosen, free, pairs, steps) in zip(applied, model.choices):
                self.assertEqual(layer, at)
                self.assertIn(name, free)
                for a, b in pairs:
                    if a == name:
                        self.assertIn((b, name), steps)
                        rings += 1
        # Else the drawn fields would say nothing of this promise.
        self.assertGreater(rings, 0)

    def test_1_by_what_is_answered_alone(self):
        for seed in range(3000, 3200):
            calls = written(Drawer(seed).build())
            for layer in LAYERS:
                applied, pairs = run(*calls, order(layer), needs(layer))[-2:]
                hangs = {}
                for at in range(1, len(pairs), 4):
                    hangs.setdefault(tuple(pairs[at:at + 2]), []).append(tuple(pairs[at + 2:at + 4]))
                first = tuple(applied[1:3])
                for other in hangs.get(first, []):
                    reached, waiting = set(), [other]
                    while waiting:
                        step = waiting.pop()
                        if step not in reached:
                            reached.add(step)
                            waiting += hangs.get(step, [])
                    self.assertIn(first, reached, (seed, layer))

    def answered(self, calls):
        """All that is told of things and effects."""
        asked = [everything(), *[look(number) for number in range(1, 6)], *[why(number) for number in range(1, 6)]]
        asked += [order(layer) for layer in LAYERS] + [needs(layer) for layer in LAYERS]
        return run(*written(calls), *asked)[len(calls):]

    def test_2_only_the_order_of_time_stamps(self):
        for seed in range(4000, 4150):
            chance = random.Random(seed)
            calls = Drawer(seed).build()
            spread, number = [], 0
            for make, arguments in calls:
                spread.append((make, arguments))
                if make == thing:
                    number += 1
                # The thing has the greatest time stamp already: a fresh one is greater, in the same order.
                newest = {thing: number, fresh: arguments[0]}.get(make)
                if newest is not None:
                    spread += [(fresh, [newest])] * chance.randint(0, 4)
            self.assertEqual(self.answered(spread), self.answered(calls), seed)

    def test_3_a_loose_effect_that_has_no_things(self):
        for seed in range(5000, 5150):
            drawer = Drawer(seed, loose=4)
            # Neither would the numbers of a fade stay the same, nor might a removed thing be copied.
            calls = [one for one in drawer.build() if one[0] not in (fade, remove)]
            empty = (effect, [drawer.random.randint(0, 1), [], *drawer.parts(list(range(15)))])
            things = slice(0, 6)
            expected = self.answered(calls)[things]
            for at in range(drawer.abilities + drawer.things, len(calls) + 1):
                self.assertEqual(self.answered(calls[:at] + [empty] + calls[at:])[things], expected, (seed, at))


def heavy(seed, told_parts, loose_parts, group):
    """As much as a field can hold, changed and looked at in turn, 200 calls in all."""
    chance = random.Random(seed)
    calls = [ability(group(chance), *told_parts(chance)) for step in range(16)]
    for step in range(10):
        places = [chance.randrange(16), chance.randrange(16)]
        calls.append(thing(step % 2, 0, chance.randint(0, 4), chance.randint(0, 4), [0], [10], [0], [0], places))
    for step in range(10):
        calls.append(effect(step % 2, chance.sample(range(1, 11), 10), *loose_parts(chance)))
    while len(calls) < 200:
        calls.append(fresh(chance.randint(1, 10)) if len(calls) % 2 else everything())
    return join(calls)


def counting(chance):
    return [[13, chance.choice([-2, -1, 1, 2]), 0, 0, 0, 0, 0, 0, 0, 1, chance.randint(-5, 30)] for step in range(4)]


HEAVY = (
    (counting, counting, lambda chance: [0, 0, 0, 0, 0, 0, 1, chance.randint(-5, 10)]),
    (lambda chance: [[1], [4, 11], [7, 1], [8, 1]], lambda chance: [[1], [5, chance.randint(10, 12)], [6, 1], [9, 1]],
     lambda chance: [0, chance.randint(0, 2), 0, chance.randint(0, 2), 0, chance.randint(0, 2), 0, 0]),
    (lambda chance: [[5, chance.randint(10, 16)] for step in range(4)],
     lambda chance: [[0, chance.randint(1, 10)] for step in range(4)],
     lambda chance: [0, 0, 0, 0, chance.randint(10, 16), 0, 0, 0]),
)


class Heavy(unittest.TestCase):
    def test_as_much_as_a_field_can_hold(self):
        for seed, (told_parts, loose_parts, group) in enumerate(HEAVY):
            calls = heavy(seed, told_parts, loose_parts, group)
            before = list(calls)
            start = time.monotonic()
            found = answers(calls)
            # It takes a few seconds at the most; the bound leaves room for a slow machine.
            self.assertLess(time.monotonic() - start, 60)
            self.assertEqual(calls, before)
            self.assertEqual(len(split(found)), 200)
            if seed:
                self.assertEqual(answers(calls), found)


if __name__ == "__main__":
    unittest.main()
