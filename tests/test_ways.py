"""Promises [50] to [52]: steps and ways, the shortest ones and heights, isles and shut lists."""

import itertools
import unittest

from kitwright.errors import BadNumber, BadRoots, BadSet, BadStep, BadWay, NotRegistry, NotSound
from kitwright.ranges import Range
from kitwright.registries import Registry, renamed, together
from kitwright.ways import (
    are_heights, far, first_way, heights_to, is_isle_paper, is_shut, is_way, isle_paper, isles, passed, stepped,
    steps_at, way_at, ways_count)
from tests.roadmaps import TWO, distances, road_cases, road_map, shortest_ways, some_pairs, walked
from tests.samples import (
    ALL, APP, EMPTY, HIGH, LOW, V1, V2, V3, Case, any_values, plain_line, plain_set, plain_sets, plain_sound, plain_states)

ONE, OTHER = {"a": V1, "b": V1}, {"a": V2, "b": V2}
WAY = [("a", ()), ("b", V2), ("a", V2)]


class Promise50(Case):
    def test_steps(self):
        for rng, kits, roots, lines in road_cases(251, 80):
            registry, roads = Registry(kits), road_map(kits, lines)
            for line in rng.sample(lines, min(9, len(lines))):
                chosen = plain_set(kits, line)
                self.same(self.answers_anew(steps_at, registry, roots, chosen), sorted(roads[line]))
                for kit in kits:
                    for state in plain_states(kits, kit) + [V3, (9, 9, 9)]:
                        if (kit, state) in roads[line]:
                            self.same(stepped(registry, roots, chosen, (kit, state)), plain_set(kits, roads[line][kit, state]))
                        else:
                            self.refuses(BadStep, stepped, registry, roots, chosen, (kit, state))

    def test_ways(self):
        long = 0
        for rng, kits, roots, lines in road_cases(252, 100):
            registry, roads = Registry(kits), road_map(kits, lines)
            for one, other, start, goal in some_pairs(rng, kits, roads):
                way, line = [], one
                for _ in range(rng.randint(0, 8)):
                    if roads[line]:
                        step = rng.choice(sorted(roads[line]))
                        way.append(step)
                        line = roads[line][step]
                long += len(way) > 4
                self.same(self.answers_anew(passed, registry, roots, start, way),
                          [plain_set(kits, row) for row in walked(roads, one, way)])
                end = plain_set(kits, line)
                for target in (goal, end):
                    self.assertIs(is_way(registry, roots, start, target, way), target == end)
                self.assertIs(is_way(registry, roots, start, end, tuple(way)), True)
                back = [(kit, row[sorted(kits).index(kit)]) for (kit, _), row in zip(way, walked(roads, one, way))][::-1]
                self.assertIs(is_way(registry, roots, end, start, back), True)
                if rng.random() < 0.3:
                    self.wrong_ways(registry, roots, roads, one, end, way, kits)
        self.assertGreater(long, 50)

    def wrong_ways(self, registry, roots, roads, one, end, way, kits):
        """Ways with one step otherwise are refused with the index of the first step that can not be made."""
        for at, line in enumerate(walked(roads, one, way)):
            for kit in kits:
                for state in plain_states(kits, kit):
                    if (kit, state) not in roads[line]:
                        wrong = way[:at] + [(kit, state), None]
                        self.refuses(BadWay, passed, registry, roots, plain_set(kits, one), wrong, at=at)
                        self.assertIs(is_way(registry, roots, plain_set(kits, one), end, wrong), False)

    def test_by_hand(self):
        registry = Registry(TWO)
        self.same(steps_at(registry=registry, roots={}, chosen=ONE), [("a", ())])
        self.same(steps_at(registry, {}, {}), [("b", V1), ("b", V2)])
        self.same(stepped(registry=registry, roots={}, chosen=ONE, step=("a", ())), {"b": V1})
        self.same(passed(registry=registry, roots={}, one=ONE, way=WAY), [ONE, {"b": V1}, {"b": V2}, OTHER])
        self.same(passed(registry, {}, ONE, []), [ONE])
        self.assertIs(is_way(registry=registry, roots={}, one=ONE, other=OTHER, value=WAY), True)
        self.assertIs(is_way(registry, {}, ONE, OTHER, WAY[:2]), False)
        self.assertIs(is_way(registry, {}, ONE, ONE, ()), True)
        self.refuses(BadWay, passed, registry, {}, ONE, [WAY[0], ("b", V1), None], at=1)
        self.refuses(BadWay, passed, registry, {}, ONE, [("a", V1)], at=0)
        self.refuses(BadWay, passed, registry, {}, ONE, [WAY[0], ["b", V2]], at=1)
        self.assertIs(is_way(registry, {}, ONE, OTHER, WAY + [("a", ()), ("a", V2)] * 60), True)

    def test_refused(self):
        registry = Registry(TWO)
        for value in any_values() + [("a", (True, 0, 0)), ("a", [1, 0, 0]), ("a",), ("a", V1, 1), ["a", ()], ("a", None),
                                     ("zz", ()), ("a", V1), ("a", V2), ("b", ()), ("b", V2), ("a", V3), (("b", ()),)]:
            self.refuses(BadStep, stepped, registry, {}, ONE, value)
            if value not in ([], ()):
                at = 0 if isinstance(value, (list, tuple)) else None
                self.refuses(BadWay, passed, registry, {}, ONE, value, at=at)
            self.refuses(BadWay, passed, registry, {}, ONE, [WAY[0], value], at=1) if value not in (
                ("a", V1), ("b", ()), ("b", V2)) else None
            self.assertIs(is_way(registry, {}, ONE, ONE, value), value in ([], ()) and isinstance(value, (list, tuple)))
            self.assertIs(is_way(registry, {}, ONE, OTHER, [*WAY, value]), False)
        # Steps that can be made, but for a True that stands in the place of 1.
        self.refuses(BadStep, stepped, registry, {}, {}, ("b", (True, 0, 0)))
        self.refuses(BadWay, passed, registry, {}, {}, [("b", V1), ("a", (True, 0, 0))], at=1)
        self.assertIs(is_way(registry, {}, {}, {"b": V1}, [("b", (True, 0, 0))]), False)

    def test_fewer_roots_and_wider_ranges(self):
        kept = 0
        for rng, kits, roots, lines in road_cases(253, 80):
            registry = Registry(kits)
            for one, other, start, goal in some_pairs(rng, kits, road_map(kits, lines), 3):
                way = first_way(registry, roots, start, goal)
                if way is None:
                    continue
                kept += len(way) > 1
                wider = {kit: ranged | Range([(V2, V3)]) for kit, ranged in roots.items()}
                for told in [{}, wider, *[{kit: roots[kit] for kit in roots if kit != left} for left in roots]]:
                    self.assertIs(is_way(registry, told, start, goal, way), True)
                freer = {kit: {version: (dict(list(told[0].items())[1:]), {}, told[2]) for version, told in kits[kit].items()}
                         for kit in kits}
                self.assertIs(is_way(Registry(freer), roots, start, goal, way), True)
        self.assertGreater(kept, 20)


class Promise51(Case):
    def test_shortest_ways(self):
        seen = {"none": 0, "several": 0, "long": 0}
        for rng, kits, roots, lines in road_cases(254, 120):
            registry, roads = Registry(kits), road_map(kits, lines)
            for one, other, start, goal in some_pairs(rng, kits, roads):
                wanted = shortest_ways(roads, one, other)
                if len(wanted) > 60:
                    continue
                self.same(far(registry, roots, start, goal), len(wanted[0]) if wanted else None)
                self.same(self.answers_anew(first_way, registry, roots, start, goal), wanted[0] if wanted else None)
                self.same(ways_count(registry, roots, start, goal), len(wanted))
                for number, way in enumerate(wanted):
                    self.same(way_at(registry, roots, start, goal, number), way)
                for number in (len(wanted), -1, 10 ** 99):
                    self.refuses(BadNumber, way_at, registry, roots, start, goal, number)
                seen["none"] += not wanted
                seen["several"] += len(wanted) > 2
                seen["long"] += bool(wanted) and len(wanted[0]) > 3
                self.at_least_unlike(wanted, one, other, sorted(kits), roads)
        self.assertGreater(min(seen.values()), 8, seen)

    def at_least_unlike(self, ways, one, other, names, roads):
        """No way has fewer steps than kits differ; one has just so many if the changes can be made in some order."""
        changes = [(kit, state) for kit, old, state in zip(names, one, other) if old != state]
        straight = False
        for row in itertools.permutations(changes):
            line = one
            for step in row:
                line = roads[line].get(step) if line else None
            straight = straight or line is not None
        if ways:
            self.assertGreaterEqual(len(ways[0]), len(changes))
        self.assertEqual(bool(ways) and len(ways[0]) == len(changes), straight)

    def test_heights(self):
        none = 0
        for rng, kits, roots, lines in road_cases(255, 80):
            registry, roads = Registry(kits), road_map(kits, lines)
            for one, other, start, goal in some_pairs(rng, kits, roads, 2):
                away = distances(roads, other)
                wanted = {line: away.get(line, 10 ** 9) for line in lines}
                found = self.answers_anew(heights_to, registry, roots, goal)
                self.same(found, wanted)
                none += len(away) < len(lines)
                self.assertIs(are_heights(registry, roots, goal, dict(reversed(found.items()))), True)
                self.assertIs(are_heights(registry, roots, goal, {line: 0 for line in lines}), True)
                for line in rng.sample(lines, min(10, len(lines))):
                    for number in (found[line] + 1, found[line] - 1, 0, 10 ** 30):
                        told = {**found, line: number}
                        right = number >= 0 and told[other] == 0 and all(
                            told[old] <= told[later] + 1 for old in roads for later in roads[old].values())
                        self.assertIs(are_heights(registry, roots, goal, told), right)
                    less = {old: number for old, number in found.items() if old != line}
                    self.assertIs(are_heights(registry, roots, goal, less), False)
                for line in lines:
                    if line in away:
                        self.assertEqual(far(registry, roots, plain_set(kits, line), goal), found[line])
        self.assertGreater(none, 5)

    def test_by_hand(self):
        registry = Registry(TWO)
        told = {"registry": registry, "roots": {}, "one": ONE, "other": OTHER}
        self.same(far(**told), 3)
        self.same(first_way(**told), WAY)
        self.same(ways_count(**told), 1)
        self.same(way_at(**told, number=0), WAY)
        self.same(far(registry, {}, ONE, ONE), 0)
        self.same(first_way(registry, {}, ONE, ONE), [])
        self.same(way_at(registry, {}, ONE, ONE, 0), [])
        self.refuses(BadNumber, way_at, registry, {}, ONE, ONE, 1)
        roots = {"a": ALL}
        self.same([far(registry, roots, ONE, OTHER), first_way(registry, roots, ONE, OTHER)], [None, None])
        self.same(ways_count(registry, roots, ONE, OTHER), 0)
        self.refuses(BadNumber, way_at, registry, roots, ONE, OTHER, 0)
        self.same(heights_to(registry=registry, roots=roots, other=OTHER), {(V1, V1): 10 ** 9, (V2, V2): 0})
        self.same(heights_to(registry, {}, OTHER), {((), ()): 2, ((), V1): 2, ((), V2): 1, (V1, V1): 3, (V2, V2): 0})
        self.assertIs(are_heights(registry=registry, roots=roots, other=ONE, value={(V1, V1): 0, (V2, V2): 5}), True)
        self.assertIs(are_heights(registry, roots, ONE, {(V1, V1): 0, (V2, V2): 10 ** 90}), True)
        for value in any_values():
            self.assertIs(are_heights(registry, roots, ONE, value), False)
            self.assertIs(are_heights(registry, roots, ONE, {(V1, V1): 0, (V2, V2): value}),
                          isinstance(value, int) and not isinstance(value, bool) and value >= 0)
        for value in [{(V1, V1): False, (V2, V2): 5}, {(V1, V1): 0, (V2, V2): 5, ((), ()): 1}, {(V1, V1): 0},
                      {((True, 0, 0), V1): 0, (V2, V2): 5}, {(V1, V1): 1, (V2, V2): 5}, {(V1, V1): 0, (V2, V2): -1},
                      {(V1, V1): 0, (V2, V1): 5}, [((V1, V1), 0), ((V2, V2), 5)], {(V1, V1): 0, "x": 5}]:
            self.assertIs(are_heights(registry, roots, ONE, value), False, value)
        for number in (True, False, None, "0", (0,), -1):
            self.refuses(BadNumber, way_at, registry, {}, ONE, OTHER, number)


class Promise52(Case):
    def plain_isles(self, roads):
        """The isles, ascending."""
        return sorted({tuple(sorted(distances(roads, line))) for line in roads})

    def test_isles(self):
        several = 0
        for rng, kits, roots, lines in road_cases(256, 100):
            registry, roads = Registry(kits), road_map(kits, lines)
            wanted = [list(isle) for isle in self.plain_isles(roads)]
            self.same(self.answers_anew(isles, registry, roots), wanted)
            several += len(wanted) > 1
            for _ in range(6):
                lot = rng.sample(lines, rng.randint(0, len(lines)))
                some = rng.sample(wanted, rng.randint(0, len(wanted)))
                for value in (lot, [line for isle in some for line in isle]):
                    rng.shuffle(value)
                    right = all(set(isle) <= set(value) or not set(isle) & set(value) for isle in wanted)
                    self.assertIs(is_shut(registry, roots, value), right)
                    self.assertIs(is_shut(registry, roots, tuple(value)), right)
                    if value:
                        self.assertIs(is_shut(registry, roots, value + value[:1]), False)
            for one, other, start, goal in some_pairs(rng, kits, roads):
                paper = self.answers_anew(isle_paper, registry, roots, start, goal)
                self.assertEqual(paper is None, one in distances(roads, other))
                self.assertIs(is_isle_paper(registry, roots, start, goal, paper), paper is not None)
                for lot in itertools.islice(itertools.product([0, 1], repeat=len(wanted)), 16):
                    value = [line for take, isle in zip(lot, wanted) if take for line in isle][::-1]
                    self.assertIs(is_isle_paper(registry, roots, start, goal, value), one in value and other not in value)
                if paper is not None:
                    self.assertIs(is_isle_paper(registry, roots, start, goal, paper + paper[:1]), False)
                    self.assertIs(is_isle_paper(registry, roots, start, goal, paper[:-1]), False)
                    self.assertIs(is_isle_paper(registry, roots, start, goal, paper + [other]), False)
        self.assertGreater(several, 8)

    def test_one_isle_without_wants(self):
        for _, kits, _, _ in road_cases(257, 40):
            free = {kit: {version: ({}, told[1], told[2]) for version, told in kits[kit].items()} for kit in kits}
            lines = [plain_line(free, chosen) for chosen in plain_sound(free, {})]
            self.same(isles(Registry(free), {}), [lines])

    def test_by_hand(self):
        registry, roots = Registry(TWO), {"a": ALL}
        one, other = (V1, V1), (V2, V2)
        self.same(isles(registry=registry, roots=roots), [[one], [other]])
        self.same(isles(registry, {"zz": ALL}), [])
        self.same(len(isles(registry, {})), 1)
        self.assertIs(is_shut(registry=registry, roots=roots, value=[other, one]), True)
        self.assertIs(is_shut(registry, roots, []), True)
        self.assertIs(is_shut(registry, {}, [one]), False)
        self.same(isle_paper(registry=registry, roots=roots, one=ONE, other=OTHER), [one])
        self.same(isle_paper(registry, {}, ONE, OTHER), None)
        self.assertIs(is_isle_paper(registry=registry, roots=roots, one=ONE, other=OTHER, value=(one,)), True)
        self.assertIs(is_isle_paper(registry, roots, ONE, ONE, [one]), False)
        for value in any_values() + [(one, ((), V1)), (one, ONE), {one: 1}, (((True, 0, 0), V1),), ([V1, V1],)]:
            empty = isinstance(value, (list, tuple)) and not value
            self.assertIs(is_shut(registry, roots, value), empty)
            self.assertIs(is_shut(registry, roots, [one, value]), False)
            self.assertIs(is_isle_paper(registry, roots, ONE, OTHER, value), False)
            self.assertIs(is_isle_paper(registry, roots, ONE, OTHER, [value, one]), False)


class AllOfPartSix(Case):
    CALLS = [(steps_at, []), (stepped, [None]), (passed, [None]), (heights_to, []), (are_heights, [None])]
    PAIRS = [(is_way, [None]), (far, []), (first_way, []), (ways_count, []), (way_at, [None]), (isle_paper, []),
             (is_isle_paper, [None])]

    def test_not_sound(self):
        for _, kits, roots, lines in road_cases(258, 40):
            registry, good = Registry(kits), plain_set(kits, lines[0])
            for bad in [chosen for chosen in plain_sets(kits) if plain_line(kits, chosen) not in lines][:4]:
                for call, more in self.CALLS:
                    self.refuses(NotSound, call, registry, roots, bad, *more)
                for call, more in self.PAIRS:
                    self.refuses(NotSound, call, registry, roots, bad, good, *more)
                    self.refuses(NotSound, call, registry, roots, good, bad, *more)
                    self.refuses(NotSound, call, registry, roots, bad, {"zz": V1}, *more)
                    self.refuses(BadSet, call, registry, roots, {"zz": V1}, bad, *more)
                    self.refuses(BadSet, call, registry, roots, good, {"zz": V1}, *more)

    def test_order(self):
        registry = Registry(TWO)
        for call, more in self.CALLS + [(call, [None, *more]) for call, more in self.PAIRS] + [(isles, None), (is_shut, None)]:
            rest = [None, *more] if more is not None else ([] if call is isles else [None])
            self.refuses(NotRegistry, call, None, None, *rest)
            self.refuses(BadRoots, call, registry, None, *rest)
            if more is not None:
                self.refuses(BadSet, call, registry, {}, None, *more)
                self.refuses(NotSound, call, registry, {}, {"a": V1}, *more)

    def test_put_together(self):
        for rng, kits, roots, lines in road_cases(259, 20):
            registry = Registry(kits)
            if "z" in registry.named or len(kits) > 2 or len(roots) > 1:
                continue
            other = Registry({"x": {V1: EMPTY, V2: EMPTY}})
            both = together(registry, other)
            for one, goal, start, end in some_pairs(rng, kits, road_map(kits, lines)):
                away = far(registry, roots, start, end)
                self.same(far(both, roots, start, {**end, "x": V1}), None if away is None else away + 1)
                self.same(far(both, roots, {**start, "x": V1}, {**end, "x": V2}), None if away is None else away + 1)

    def test_called_otherwise(self):
        registry = Registry(TWO)
        called = renamed(registry, {"a": "zz", "b": "yy"})
        told = [{"zz": V1, "yy": V1}, {"zz": V2, "yy": V2}]
        self.same(first_way(called, {}, *told), [({"a": "zz", "b": "yy"}[kit], state) for kit, state in WAY])
        self.same(len(isles(called, {"zz": ALL})), 2)

    def test_versions_come_and_go(self):
        for rng, kits, roots, lines in road_cases(260, 30):
            registry = Registry(kits)
            kit = rng.choice(sorted(kits))
            if len(kits[kit]) == 4 or len(kits) == 5:
                continue
            later = registry.published(kit, (9, 0, 0), EMPTY)
            for one, other, start, goal in some_pairs(rng, kits, road_map(kits, lines)):
                way = first_way(registry, roots, start, goal)
                if way is not None:
                    self.assertIs(is_way(later, roots, start, goal, way), True)
                    self.assertLessEqual(far(later, roots, start, goal), len(way))
                    self.assertIs(is_way(later.withdrawn(kit, (9, 0, 0)), roots, start, goal, way), True)

    def test_of_six_hundred_sets(self):
        kits = {kit: {version: EMPTY for version in (V1, V2, V3, (4, 0, 0))[:many]} for kit, many in
                zip("abcde", (4, 4, 3, 2, 1))}
        registry = Registry(kits)
        last = {kit: max(kits[kit]) for kit in kits}
        self.same(ways_count(registry, {}, {}, last), 120)
        self.same(way_at(registry, {}, {}, last, 119), [(kit, last[kit]) for kit in "edcba"])
        self.same(len(isles(registry, {})[0]), 600)

    def test_app(self):
        registry = Registry(APP)
        self.same(far(registry, {"lib": ALL}, {"app": V1, "lib": V1}, {"app": V2, "lib": V2}), 3)
        self.same(far(registry, {"lib": LOW}, {"app": V1, "lib": V1}, {"lib": V1}), 1)
        self.same(steps_at(registry, {"lib": HIGH}, {"lib": V2}), [("app", V2)])


if __name__ == "__main__":
    unittest.main()
