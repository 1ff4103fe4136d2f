"""Promises [55] and [56]: what ways cost, crossings from roots to later ones, and how much room ways need."""

import random
import unittest

from kitwright.errors import BadNumber, BadPrices, BadRoots, BadSet, BadSizes, BadWay, NotRegistry, NotSound
from kitwright.prices import (
    are_price_heights, cheapest_way, crossing, is_room_paper, least_room, price_heights, room_paper, way_price)
from kitwright.registries import Registry
from kitwright.ways import far, first_way, is_way
from tests.roadmaps import TWO, distances, maze_roots, road_cases, road_map, shortest_ways, some_pairs, walked
from tests.samples import ALL, EMPTY, LOW, V1, V2, V3, Case, any_values, plain_line, plain_set, plain_sets, plain_sound

ONE, OTHER = {"a": V1, "b": V1}, {"a": V2, "b": V2}
WAY = [("a", ()), ("b", V2), ("a", V2)]
PRICES = {"a": (5, 1, 2), "b": (4, 1, 9)}
SIZES = {"a": {V1: 3, V2: 2}, "b": {V1: 10, V2: 1}}


def some_prices(rng, kits):
    """Prices, many of them alike."""
    return {kit: tuple(rng.choice([0, 1, 1, 2, 3, 1000]) for _ in range(3)) for kit in kits}


def some_sizes(rng, kits):
    """Sizes, many of them alike."""
    return {kit: {version: rng.choice([0, 1, 1, 2, 5, 10 ** 6]) for version in kits[kit]} for kit in kits}


def step_price(prices, names, line, later):
    """What a step costs."""
    (kit, old, new), = [(kit, old, new) for kit, old, new in zip(names, line, later) if old != new]
    return prices[kit][0] if old == () else prices[kit][1] if new == () else prices[kit][2]


def plain_price(prices, names, lines):
    """What a way costs."""
    return sum(step_price(prices, names, line, later) for line, later in zip(lines, lines[1:]))


def least_prices(roads, prices, names, goal):
    """For each line the least price of a way to one and, for it, the least number of steps; tried till nothing changes."""
    found = {goal: (0, 0)}
    while True:
        changed = False
        for line in roads:
            for later in roads[line].values():
                if later in found:
                    told = (found[later][0] + step_price(prices, names, line, later), found[later][1] + 1)
                    if line not in found or told < found[line]:
                        found[line], changed = told, True
        if not changed:
            return found


def cheapest_ways(roads, prices, names, one, other):
    """All ways with the least price and, of these, the fewest steps, ascending."""
    least = least_prices(roads, prices, names, other)
    if one not in least:
        return []
    rows = [([], one)]
    for _ in range(least[one][1]):
        rows = [(way + [step], later) for way, line in rows for step, later in roads[line].items()
                if least[later] == (least[line][0] - step_price(prices, names, line, later), least[line][1] - 1)]
    return sorted(way for way, _ in rows)


def size_of(sizes, names, line):
    """The size of a line."""
    return sum(sizes[kit][state] for kit, state in zip(names, line) if state)


def lighter(roads, sizes, names, room):
    """The map of the lines of less size."""
    good = [line for line in roads if size_of(sizes, names, line) < room]
    return {line: {step: later for step, later in roads[line].items() if later in good} for line in good}


class Promise55(Case):
    def test_way_price(self):
        for rng, kits, roots, lines in road_cases(281, 60):
            registry, roads, prices = Registry(kits), road_map(kits, lines), some_prices(rng, kits)
            for one, other, start, goal in some_pairs(rng, kits, roads, 3):
                way, line = [], one
                for _ in range(rng.randint(0, 7)):
                    if roads[line]:
                        way.append(rng.choice(sorted(roads[line])))
                        line = roads[line][way[-1]]
                wanted = plain_price(prices, sorted(kits), walked(roads, one, way))
                self.same(self.answers_anew(way_price, registry, roots, prices, start, way), wanted)
                self.same(way_price(registry, roots, prices, start, tuple(way)), wanted)
                for at in range(len(way) + 1):
                    wrong = way[:at] + [("zz", V1)] + way[at:]
                    self.refuses(BadWay, way_price, registry, roots, prices, start, wrong, at=at)

    def test_cheapest_ways(self):
        seen = {"none": 0, "longer": 0, "several": 0}
        for rng, kits, roots, lines in road_cases(282, 120):
            registry, roads, names = Registry(kits), road_map(kits, lines), sorted(kits)
            for one, other, start, goal in some_pairs(rng, kits, roads, 3):
                prices = some_prices(rng, kits)
                least = least_prices(roads, prices, names, other)
                ways = cheapest_ways(roads, prices, names, one, other)
                found = self.answers_anew(cheapest_way, registry, roots, prices, start, goal)
                self.same(found, (least[one][0], ways[0]) if ways else None)
                seen["none"] += not ways
                seen["several"] += len(ways) > 1
                if found is not None:
                    self.same(way_price(registry, roots, prices, start, found[1]), found[0])
                    seen["longer"] += len(found[1]) > distances(roads, other)[one]
        self.assertGreater(min(seen.values()), 3, seen)

    def test_price_heights(self):
        none = 0
        for rng, kits, roots, lines in road_cases(283, 60):
            registry, roads, names, prices = Registry(kits), road_map(kits, lines), sorted(kits), some_prices(rng, kits)
            other = rng.choice(lines)
            goal, least = plain_set(kits, other), least_prices(roads, prices, names, other)
            found = self.answers_anew(price_heights, registry, roots, prices, goal)
            self.same(found, {line: least[line][0] if line in least else 10 ** 9 for line in lines})
            none += len(least) < len(lines)
            self.assertIs(are_price_heights(registry, roots, prices, goal, dict(reversed(found.items()))), True)
            for line in lines[:20]:
                for number in (found[line] + 1, found[line] - 1, 0, 10 ** 30):
                    told = {**found, line: number}
                    right = number >= 0 and told[other] == 0 and all(
                        told[old] <= told[later] + step_price(prices, names, old, later)
                        for old in roads for later in roads[old].values())
                    self.assertIs(are_price_heights(registry, roots, prices, goal, told), right)
                self.assertIs(are_price_heights(registry, roots, prices, goal, {
                    old: number for old, number in found.items() if old != line}), False)
        self.assertGreater(none, 5)

    def test_with_prices_of_one(self):
        for rng, kits, roots, lines in road_cases(284, 30):
            registry, roads, prices = Registry(kits), road_map(kits, lines), {kit: (1, 1, 1) for kit in kits}
            for one, other, start, goal in some_pairs(rng, kits, roads, 3):
                away = far(registry, roots, start, goal)
                self.same(cheapest_way(registry, roots, prices, start, goal),
                          None if away is None else (away, first_way(registry, roots, start, goal)))

    def test_crossing(self):
        seen = {"none": 0, "both": 0, "there": 0}
        rng = random.Random(285)
        for _, kits, roots, lines in road_cases(286, 150):
            later, names, registry, prices = maze_roots(rng, kits), sorted(kits), Registry(kits), some_prices(rng, kits)
            more = [plain_line(kits, chosen) for chosen in plain_sound(kits, later)]
            if not more or len(more) > 100:
                continue
            near, beyond = road_map(kits, lines), road_map(kits, more)
            one, other = rng.choice(lines), rng.choice(more)
            start, goal = plain_set(kits, one), plain_set(kits, other)
            left = least_prices(beyond, prices, names, other)
            sums = [least_prices(near, prices, names, line)[one][0] + left[line][0] for line in left
                    if line in near and one in distances(near, line)]
            found = self.answers_anew(crossing, registry, roots, later, prices, start, goal)
            self.assertEqual(found is not None, bool(sums))
            seen["none"] += not sums
            if found is None:
                continue
            price, ahead, behind = found
            self.assertIs(type(found), tuple)
            self.same(price, min(sums))
            rows = walked(near, one, ahead)
            rows += walked(beyond, rows[-1], behind)[1:]
            self.assertIn(walked(near, one, ahead)[-1], beyond)
            self.assertEqual(rows[-1], other)
            self.assertEqual(plain_price(prices, names, rows), price)
            seen["there"] += 1
            seen["both"] += bool(ahead) and bool(behind)
        self.assertGreater(min(seen.values()), 3, seen)

    def test_by_hand(self):
        registry, told = Registry(TWO), {"registry": Registry(TWO), "roots": {}, "prices": PRICES}
        found = cheapest_way(**told, one=ONE, other=OTHER)
        self.same(found, (11, [("a", ()), ("b", ()), ("b", V2), ("a", V2)]))
        self.same(way_price(**told, one=ONE, way=WAY), 15)
        self.same(way_price(**told, one=ONE, way=[]), 0)
        self.same(cheapest_way(registry, {"a": ALL}, PRICES, ONE, OTHER), None)
        self.same(cheapest_way(registry, {}, PRICES, ONE, ONE), (0, []))
        heights = price_heights(**told, other=OTHER)
        self.same(heights, {((), ()): 9, ((), V1): 10, ((), V2): 5, (V1, V1): 11, (V2, V2): 0})
        self.assertIs(are_price_heights(**told, other=OTHER, value=heights), True)
        self.same(price_heights(registry, {"a": ALL}, PRICES, OTHER), {(V1, V1): 10 ** 9, (V2, V2): 0})
        self.same(cheapest_way(registry, {}, {"a": (0, 0, 0), "b": (0, 0, 0)}, ONE, OTHER), (0, WAY))
        self.same(cheapest_way(registry, {}, {"a": (1000, 1000, 0), "b": (0, 1000, 1000)}, ONE, OTHER)[0], 3000)
        self.same(crossing(**told, later={"b": ALL}, one=ONE, other=OTHER)[0], 11)
        # If b has to stay by both roots, the cheapest way without them can not be gone.
        price, ahead, behind = crossing(registry, {"b": ALL}, {"b": ALL}, PRICES, ONE, OTHER)
        self.same([price, ahead + behind], [15, WAY])
        self.same(crossing(registry, {"a": ALL}, {}, PRICES, ONE, OTHER), (11, [], found[1]))
        self.same(crossing(registry, {}, {"a": ALL}, PRICES, ONE, OTHER), (11, found[1], []))
        self.same(crossing(registry, {"a": LOW}, {"b": LOW}, PRICES, ONE, {"b": V1}), (1, [], [("a", ())]))

    def test_numbers_that_are_no_heights(self):
        registry, roots = Registry(TWO), {"a": ALL}
        for value in any_values():
            self.assertIs(are_price_heights(registry, roots, PRICES, ONE, value), False)
            self.assertIs(are_price_heights(registry, roots, PRICES, ONE, {(V1, V1): 0, (V2, V2): value}),
                          isinstance(value, int) and not isinstance(value, bool) and value >= 0)
        for value in [{(V1, V1): False, (V2, V2): 5}, {(V1, V1): 0, (V2, V2): 5, ((), ()): 1}, {(V1, V1): 0},
                      {((True, 0, 0), V1): 0, (V2, V2): 5}, {(V1, V1): 1, (V2, V2): 5}, {(V1, V1): 0, "x": 5}]:
            self.assertIs(are_price_heights(registry, roots, PRICES, ONE, value), False, value)

    def test_refused(self):
        registry = Registry(TWO)
        calls = [(way_price, [], [ONE, []]), (cheapest_way, [], [ONE, OTHER]), (price_heights, [], [OTHER]),
                 (are_price_heights, [], [OTHER, None]), (crossing, [{}], [ONE, OTHER])]
        wrong = [{**PRICES, "a": (5, 1)}, {**PRICES, "a": [5, 1, 2]}, {**PRICES, "a": (5, 1, 1001)},
                 {**PRICES, "a": (5, -1, 2)}, {**PRICES, "b": (True, 0, 0)}, {**PRICES, "b": (1, None, 2)}, {"a": (5, 1, 2)},
                 {**PRICES, "c": (1, 1, 1)}, {"a": (1, 1, 1), "zz": (1, 1, 1)}, [1, 1], list(PRICES.items()),
                 {**PRICES, "b": (1, 2, 3, 4)}, {**PRICES, "b": {}}, {**PRICES, "b": "123"}, {**PRICES, "b": (1, 1, "1")}]
        for call, ahead, behind in calls:
            for value in any_values() + wrong:
                self.refuses(BadPrices, call, registry, {}, *ahead, value, *[None for _ in behind])
                if repr(value) != "(1, 0, 0)":
                    self.refuses(BadPrices, call, registry, {}, *ahead, {**PRICES, "a": value}, *behind)
            call(registry, {}, *ahead, {"a": (0, 0, 0), "b": (1000, 1000, 1000)}, *behind)
            self.refuses(NotRegistry, call, None, None, *ahead, None, *behind)
            self.refuses(BadRoots, call, registry, None, *ahead, None, *behind)
            self.refuses(BadSet, call, registry, {}, *ahead, PRICES, None, *behind[1:])
            self.refuses(NotSound, call, registry, {}, *ahead, PRICES, {"a": V1}, *[None for _ in behind[1:]])
        for value in any_values() + [{"a": None}]:
            if value != {} or not isinstance(value, dict):
                self.refuses(BadRoots, crossing, registry, {}, value, None, None, None)
            if value not in ([], ()):
                self.refuses(BadWay, way_price, registry, {}, PRICES, ONE, value,
                             at=0 if isinstance(value, (list, tuple)) else None)
            if value != ("a", V1):
                self.refuses(BadWay, way_price, registry, {}, PRICES, ONE, [WAY[0], value], at=1)
        self.refuses(NotSound, crossing, registry, {"a": ALL}, {}, PRICES, {"b": V1}, None)
        self.refuses(NotSound, crossing, registry, {}, {"a": ALL}, PRICES, {"b": V1}, {"b": V1})
        self.refuses(BadSet, crossing, registry, {}, {"a": ALL}, PRICES, {"b": V1}, {"zz": V1})
        self.refuses(NotSound, cheapest_way, registry, {"a": ALL}, PRICES, ONE, {"b": V1})


class Promise56(Case):
    def test_least_room(self):
        seen = {"none": 0, "empty": 0, "paper": 0, "detour": 0}
        for rng, kits, roots, lines in road_cases(287, 100):
            registry, roads, names = Registry(kits), road_map(kits, lines), sorted(kits)
            for one, other, start, goal in some_pairs(rng, kits, roads, 5):
                sizes = some_sizes(rng, kits)
                if rng.random() < 0.5:
                    # Both ends are light, so that what is between may be heavy.
                    for kit, *states in zip(names, one, other):
                        sizes[kit] = {version: 0 if version in states else rng.choice([1, 3, 10, 50]) for version in kits[kit]}
                rooms = sorted({size_of(sizes, names, line) for line in lines})
                there = [room for room in rooms if one in lighter(roads, sizes, names, room + 1)
                         and other in lighter(roads, sizes, names, room + 1)
                         and one in distances(lighter(roads, sizes, names, room + 1), other)]
                found = self.answers_anew(least_room, registry, roots, sizes, start, goal)
                paper = self.answers_anew(room_paper, registry, roots, sizes, start, goal)
                self.assertEqual(found is not None, bool(there))
                self.assertEqual(paper is not None, bool(there))
                if not there:
                    seen["none"] += 1
                    continue
                room, way = found
                self.same(room, there[0])
                self.assertIs(is_way(registry, roots, start, goal, way), True)
                self.assertEqual(max(size_of(sizes, names, line) for line in walked(roads, one, way)), room)
                seen["detour"] += len(way) > distances(roads, other)[one]
                seen["empty" if paper == [] else "paper"] += 1
                self.assertIs(is_room_paper(registry, roots, sizes, start, goal, room, paper), True)
                self.assertIs(is_room_paper(registry, roots, sizes, start, goal, room + 1, paper), False)
                if rng.random() < 0.35 or paper:
                    self.papers(registry, roots, sizes, roads, names, one, other, paper, rooms)
        self.assertGreater(min(seen.values()), 3, seen)

    def papers(self, registry, roots, sizes, roads, names, one, other, paper, rooms):
        """Papers for several numbers, with a line more or less, are told by the test's own look."""
        kits = {kit: None for kit in names}
        start, goal = plain_set(kits, one), plain_set(kits, other)
        for room in [*rooms[:4], rooms[-1] + 1, 0, -3, 10 ** 40]:
            less = lighter(roads, sizes, names, room)
            whole = sorted(distances(less, one)) if one in less else []
            for value in ([], paper, whole, paper[1:], paper + [one], whole[:-1], whole[::-1], whole + [other]):
                if one not in less or other not in less:
                    right = value == []
                else:
                    right = one in value and other not in value and len(set(value)) == len(value) and all(
                        line in less and all(later in value for later in less[line].values()) for line in value)
                self.assertIs(is_room_paper(registry, roots, sizes, start, goal, room, value), right)
                self.assertIs(is_room_paper(registry, roots, sizes, start, goal, room, tuple(value)), right)

    def test_by_hand(self):
        registry, told = Registry(TWO), {"registry": Registry(TWO), "roots": {}, "sizes": SIZES, "one": ONE, "other": OTHER}
        room, way = least_room(**told)
        self.same(room, 13)
        self.assertIs(is_way(registry, {}, ONE, OTHER, way), True)
        self.same(room_paper(**told), [])
        self.assertIs(is_room_paper(**told, room=13, value=()), True)
        self.assertIs(is_room_paper(**told, room=14, value=[]), False)
        self.same(least_room(registry, {"a": ALL}, SIZES, ONE, OTHER), None)
        self.same(room_paper(registry, {"a": ALL}, SIZES, ONE, OTHER), None)
        self.assertIs(is_room_paper(registry, {"a": ALL}, SIZES, ONE, OTHER, 14, [(V1, V1)]), True)
        self.assertIs(is_room_paper(registry, {"a": ALL}, SIZES, ONE, OTHER, 10 ** 50, [(V1, V1)]), True)
        self.same(least_room(registry, {}, SIZES, ONE, ONE), (13, []))
        self.same(room_paper(registry, {}, SIZES, ONE, ONE), [])
        small = {"a": {V1: 0, V2: 0}, "b": {V1: 0, V2: 10 ** 6}}
        self.same(least_room(registry, {}, small, {}, {"b": V2})[0], 10 ** 6)
        # Between two light sets the way goes through a heavy one.
        kits = {"a": {V1: ({}, {"b": LOW}, ()), V2: EMPTY}, "b": {V1: EMPTY, V2: EMPTY}}
        roots, sizes = {"a": LOW}, {"a": {V1: 1, V2: 1}, "b": {V1: 1, V2: 7}}
        self.same(least_room(Registry(kits), roots, sizes, {"a": V1}, {"a": V1})[0], 1)
        kits = {"a": {V1: EMPTY, V2: EMPTY, V3: EMPTY}, "b": {V1: EMPTY, V2: ({"a": LOW}, {}, ())}}
        roots, sizes = {"a": ALL}, {"a": {V1: 9, V2: 1, V3: 1}, "b": {V1: 1, V2: 0}}
        self.same(least_room(Registry(kits), roots, sizes, {"a": V2}, {"a": V3, "b": V1})[0], 2)

    def test_refused(self):
        registry = Registry(TWO)
        calls = [(least_room, []), (room_paper, []), (is_room_paper, [5, []])]
        wrong = [{"a": SIZES["a"]}, {**SIZES, "c": {}}, {**SIZES, "a": {V1: 3}}, {**SIZES, "a": {V1: 3, V2: 2, V3: 1}},
                 {**SIZES, "a": {V1: 3, V3: 2}}, {**SIZES, "a": {V1: 10 ** 6 + 1, V2: 2}}, {**SIZES, "b": {V1: -1, V2: 0}},
                 {**SIZES, "b": {V1: True, V2: 0}}, {**SIZES, "b": {(True, 0, 0): 1, V2: 0}}, {**SIZES, "b": (3, 2)},
                 {**SIZES, "b": {V1: None, V2: 0}}, {**SIZES, "b": {V1: 1, None: 0}}, list(SIZES.items()), {**PRICES},
                 {"a": {V1: 1, V2: 1}, "zz": {V1: 1, V2: 1}}]
        for call, more in calls:
            for value in any_values() + wrong:
                self.refuses(BadSizes, call, registry, {}, value, None, None, *more)
                self.refuses(BadSizes, call, registry, {}, {**SIZES, "a": value}, ONE, OTHER, *more)
            call(registry, {}, {"a": {V1: 0, V2: 10 ** 6}, "b": {V2: 0, V1: 0}}, ONE, OTHER, *more)
            self.refuses(NotRegistry, call, None, None, None, None, None, *more)
            self.refuses(BadRoots, call, registry, None, None, None, None, *more)
            self.refuses(BadSet, call, registry, {}, SIZES, None, {"a": V1}, *more)
            self.refuses(NotSound, call, registry, {}, SIZES, {"a": V1}, None, *more)
            self.refuses(BadSet, call, registry, {}, SIZES, ONE, None, *more)
            self.refuses(NotSound, call, registry, {}, SIZES, ONE, {"a": V1}, *more)
        for value in any_values():
            if isinstance(value, int) and not isinstance(value, bool):
                self.assertIs(is_room_paper(registry, {"a": ALL}, SIZES, ONE, OTHER, value, [(V1, V1)]), value > 13)
            else:
                self.refuses(BadNumber, is_room_paper, registry, {}, SIZES, ONE, OTHER, value, None)
            empty = isinstance(value, (list, tuple)) and not value
            self.assertIs(is_room_paper(registry, {}, SIZES, ONE, OTHER, 13, value), empty)
            self.assertIs(is_room_paper(registry, {"a": ALL}, SIZES, ONE, OTHER, 14, value), False)
            self.assertIs(is_room_paper(registry, {"a": ALL}, SIZES, ONE, OTHER, 14, [(V1, V1), value]), False)
        self.refuses(NotSound, is_room_paper, registry, {}, SIZES, ONE, {"a": V1}, None, None)

    def test_all_sets_of_a_way(self):
        for rng, kits, roots, lines in road_cases(288, 20):
            registry, sizes = Registry(kits), some_sizes(rng, kits)
            bad = [chosen for chosen in plain_sets(kits) if plain_line(kits, chosen) not in lines][:2]
            for chosen in bad:
                self.refuses(NotSound, least_room, registry, roots, sizes, chosen, None)
            one = plain_set(kits, lines[0])
            self.same(least_room(registry, roots, sizes, one, one), (size_of(sizes, sorted(kits), lines[0]), []))
            self.assertEqual(shortest_ways(road_map(kits, lines), lines[0], lines[0]), [[]])


if __name__ == "__main__":
    unittest.main()
