"""Promises [53] and [54]: the kits that ways touch, the sets that they pass, and ways apart."""

import itertools
import unittest

from kitwright.errors import BadLot, BadRoots, BadSet, NotRegistry, NotSound
from kitwright.registries import Registry
from kitwright.touching import (
    barring_lots, doing_lots, is_stillness, narrows, stillness, way_round, way_within, ways_apart)
from kitwright.ways import far, is_way, passed
from tests.roadmaps import TWO, distances, only, road_cases, road_map, shortest_ways, simple_ways, some_pairs, walked
from tests.samples import ALL, EMPTY, V1, V2, V3, Case, any_values, plain_line, plain_set, plain_sets

ONE, OTHER = {"a": V1, "b": V1}, {"a": V2, "b": V2}
WAY = [("a", ()), ("b", V2), ("a", V2)]


def detours(kits, roads):
    """Of kits with a detour the pair of sets between which it leads."""
    one, other = (V1, V1, V1, V1), (V1, V1, V2, V2)
    if sorted(kits) == ["c", "d", "p", "q"] and one in roads and other in roads:
        yield one, other, plain_set(kits, one), plain_set(kits, other)


def kit_lots(kits):
    """All lots of kits, shorter first, then ascending."""
    return [lot for size in range(len(kits) + 1) for lot in itertools.combinations(sorted(kits), size)]


def within(roads, lot):
    """The map of the steps of kits of a lot alone."""
    return {line: {step: later for step, later in roads[line].items() if step[0] in lot} for line in roads}


def without(roads, avoided):
    """The map without a line."""
    return {line: {step: later for step, later in roads[line].items() if later != avoided}
            for line in roads if line != avoided}


def least(lots):
    """Those of the lots that have no other one within, in their order."""
    return [lot for lot in lots if not any(set(other) < set(lot) for other in lots)]


class Promise53(Case):
    def test_lots(self):
        seen = {"none": 0, "several": 0, "barring": 0}
        for rng, kits, roots, lines in road_cases(271, 70):
            registry, roads = Registry(kits), road_map(kits, lines)
            for one, other, start, goal in [*some_pairs(rng, kits, roads, 3), *detours(kits, roads)]:
                does = [lot for lot in kit_lots(kits) if other in distances(within(roads, lot), one)]
                rests = {lot: tuple(kit for kit in sorted(kits) if kit not in lot) for lot in kit_lots(kits)}
                bars = [lot for lot in kit_lots(kits) if rests[lot] not in does]
                doing = self.answers_anew(doing_lots, registry, roots, start, goal)
                barring = self.answers_anew(barring_lots, registry, roots, start, goal)
                self.same(doing, least(does))
                self.same(barring, least(bars))
                if not does:
                    self.same([doing, barring], [[], [()]])
                if one == other:
                    self.same([doing, barring], [[()], []])
                for found, asked in ((doing, barring), (barring, doing)):
                    meet = [lot for lot in kit_lots(kits) if all(set(lot) & set(told) for told in asked)]
                    self.same(found, least(meet))
                seen["none"] += not does
                seen["several"] += len(doing) > 1
                seen["barring"] += len(barring) > 1
                self.each_lot(registry, roots, roads, one, other, does)
        self.assertGreater(min(seen.values()), 3, seen)

    def each_lot(self, registry, roots, roads, one, other, does):
        """Of each lot there is a way within, or a stillness."""
        start, goal = plain_set(dict.fromkeys(registry.kits), one), plain_set(dict.fromkeys(registry.kits), other)
        for lot in kit_lots(registry.kits)[:12]:
            way = way_within(registry, roots, start, goal, lot)
            paper = stillness(registry, roots, start, goal, lot)
            self.assertEqual(way is not None, lot in does)
            self.assertEqual(paper is None, lot in does)
            self.assertIs(is_stillness(registry, roots, start, goal, lot, paper), lot not in does)
            if way is not None:
                self.assertEqual(len(way), distances(within(roads, lot), other)[one])
                self.assertTrue(all(kit in lot for kit, _ in way))
                self.assertIs(is_way(registry, roots, start, goal, way), True)
                continue
            self.still(registry, roots, within(roads, lot), start, goal, one, other, lot, paper)

    def still(self, registry, roots, roads, start, goal, one, other, lot, paper):
        """Papers with a line more or less are told by the test's own look."""
        self.assertIs(is_stillness(registry, roots, start, goal, lot, tuple(paper[::-1])), True)
        self.assertIs(is_stillness(registry, roots, start, goal, lot, paper + paper[:1]), False)
        for line in list(roads)[:12]:
            value = [told for told in paper if told != line] if line in paper else paper + [line]
            right = one in value and other not in value and all(
                later in value for told in value for later in roads[told].values())
            self.assertIs(is_stillness(registry, roots, start, goal, lot, value), right)

    def test_by_hand(self):
        registry, told = Registry(TWO), {"registry": Registry(TWO), "roots": {}, "one": ONE, "other": OTHER}
        self.same(doing_lots(**told), [("a", "b")])
        self.same(barring_lots(**told), [("a",), ("b",)])
        self.same(way_within(**told, lot=("a", "b")), WAY)
        self.same(way_within(**told, lot=("a",)), None)
        self.same(stillness(**told, lot=("a",)), [((), V1), (V1, V1)])
        self.same(stillness(**told, lot=("a", "b")), None)
        self.assertIs(is_stillness(**told, lot=("a",), value=[(V1, V1), ((), V1)]), True)
        self.assertIs(is_stillness(**told, lot=("a",), value=[(V1, V1)]), False)
        self.assertIs(is_stillness(**told, lot=("b",), value=[(V1, V1)]), True)
        self.same(way_within(registry, {}, ONE, ONE, ()), [])
        self.same(way_within(registry, {}, ONE, {"b": V1}, ()), None)
        self.assertIs(is_stillness(registry, {}, ONE, ONE, (), [(V1, V1)]), False)
        self.same([doing_lots(registry, {"a": ALL}, ONE, OTHER), barring_lots(registry, {"a": ALL}, ONE, OTHER)], [[], [()]])
        self.same([doing_lots(registry, {}, OTHER, OTHER), barring_lots(registry, {}, OTHER, OTHER)], [[()], []])

    def test_a_lot_that_takes_more_steps(self):
        # p and q can not change at once: either c makes room for p, or d and e make room for q.
        kits = {"p": {V1: ({}, {"q": only(V2)}, ()), V2: ({}, {"q": only(V1)}, ()), V3: ({}, {"c": ALL}, ())},
                "q": {V1: EMPTY, V2: EMPTY, V3: ({}, {"d": ALL, "e": ALL}, ())},
                "c": {V1: EMPTY}, "d": {V1: EMPTY}, "e": {V1: EMPTY}}
        one = {"c": V1, "d": V1, "e": V1, "p": V1, "q": V1}
        told = {"registry": Registry(kits), "roots": {"p": ALL, "q": ALL}, "one": one, "other": {**one, "p": V2, "q": V2}}
        self.same(doing_lots(**told), [("c", "p", "q"), ("d", "e", "p", "q")])
        self.same(barring_lots(**told), [("p",), ("q",), ("c", "d"), ("c", "e")])
        self.same([len(way_within(**told, lot=lot)) for lot in doing_lots(**told)], [5, 7])
        self.same(len(way_within(**told, lot=("c", "d", "e", "p", "q"))), 5)
        self.same(way_within(**told, lot=("d", "p", "q")), None)
        # The one way can be gone without the sets of the other one.
        self.assertIsNotNone(ways_apart(**told))
        self.same(narrows(**told), [])

    def test_no_lots(self):
        registry = Registry(TWO)
        for call, more in ((way_within, []), (stillness, []), (is_stillness, [None])):
            for value in any_values() + [("b", "a"), ("a", "a"), ["a"], ("zz",), ("a", "zz"), {"a": 1}, "ab", (("a",),),
                                         ("a", None), ("A",), ("a", "b", "c")]:
                if value != () or not isinstance(value, tuple):
                    self.refuses(BadLot, call, registry, {}, ONE, OTHER, value, *more)
            self.refuses(NotSound, call, registry, {}, ONE, {"a": V1}, None, *more)
            self.refuses(BadSet, call, registry, {}, ONE, None, None, *more)

    def test_no_stillness(self):
        registry = Registry(TWO)
        for value in any_values() + [((True, 0, 0), V1), (V1,), ONE]:
            self.assertIs(is_stillness(registry, {}, ONE, OTHER, ("b",), value), False)
            self.assertIs(is_stillness(registry, {}, ONE, OTHER, ("b",), [(V1, V1), value]), False)
        # A line of a set that is not sound.
        self.assertIs(is_stillness(registry, {}, ONE, OTHER, ("b",), [(V1, V1), (V1, V2)]), False)
        self.assertIs(is_stillness(registry, {}, ONE, OTHER, ("b",), {(V1, V1): 1}), False)


class Promise54(Case):
    def test_narrows(self):
        several = none = 0
        for rng, kits, roots, lines in road_cases(272, 120):
            registry, roads = Registry(kits), road_map(kits, lines)
            for one, other, start, goal in some_pairs(rng, kits, roads, 6):
                found = self.answers_anew(narrows, registry, roots, start, goal)
                if other not in distances(roads, one):
                    self.same(found, None)
                    none += 1
                    continue
                wanted = {line for line in lines if line not in (one, other)
                          and other not in distances(without(roads, line), one)}
                way = walked(roads, one, shortest_ways(roads, one, other)[0])
                self.same(found, [line for line in way if line in wanted])
                self.assertEqual(set(found), wanted)
                several += len(found) > 1
                for way in (simple_ways(roads, one, other, 200) or [])[:20]:
                    self.same([line for line in way if line in wanted], found)
        self.assertGreater(several, 8)
        self.assertGreater(none, 5)

    def test_way_round(self):
        seen = {True: 0, False: 0}
        for rng, kits, roots, lines in road_cases(273, 80):
            registry, roads = Registry(kits), road_map(kits, lines)
            for one, other, start, goal in some_pairs(rng, kits, roads, 3):
                for avoided in {one, other, *lines[:8]}:
                    chosen = plain_set(kits, avoided)
                    found = self.answers_anew(way_round, registry, roots, start, goal, chosen)
                    rest = without(roads, avoided)
                    there = avoided not in (one, other) and one in distances(rest, other)
                    self.assertEqual(found is not None, there)
                    if there:
                        self.assertEqual(len(found), distances(rest, other)[one])
                        self.assertNotIn(avoided, walked(roads, one, found))
                        self.assertEqual(walked(roads, one, found)[-1], other)
                    seen[there] += 1
                for line in narrows(registry, roots, start, goal) or []:
                    self.same(way_round(registry, roots, start, goal, plain_set(kits, line)), None)
        self.assertGreater(min(seen.values()), 100)

    def test_ways_apart(self):
        seen = {"pairs": 0, "none": 0, "step": 0, "long": 0}
        for rng, kits, roots, lines in road_cases(274, 150):
            registry, roads = Registry(kits), road_map(kits, lines)
            for one, other, start, goal in some_pairs(rng, kits, roads, 4):
                found = self.answers_anew(ways_apart, registry, roots, start, goal)
                away = distances(roads, one).get(other)
                if found is not None:
                    seen["pairs"] += 1
                    seen["step"] += away == 1
                    seen["long"] += max(len(way) for way in found) > 3
                    self.judge(roads, one, other, found)
                ways = simple_ways(roads, one, other, 500)
                if ways is not None:
                    there = one != other and any(not set(way[1:-1]) & set(more[1:-1])
                                                 for way, more in itertools.combinations(ways, 2))
                    self.assertEqual(found is not None, there)
                seen["none"] += found is None
                if away is not None and away >= 2:
                    self.assertEqual(found is not None, narrows(registry, roots, start, goal) == [])
        self.assertGreater(min(seen.values()), 15, seen)

    def judge(self, roads, one, other, found):
        """Two unlike ways that pass no set twice and share none but both ends."""
        self.assertIs(type(found), tuple)
        rows = [walked(roads, one, way) for way in found]
        self.assertEqual(len(rows), 2)
        self.assertNotEqual(found[0], found[1])
        for row in rows:
            self.assertEqual((row[0], row[-1]), (one, other))
            self.assertEqual(len(set(row)), len(row))
        self.assertFalse(set(rows[0][1:-1]) & set(rows[1][1:-1]))

    def test_by_hand(self):
        registry, told = Registry(TWO), {"registry": Registry(TWO), "roots": {}, "one": ONE, "other": OTHER}
        self.same(narrows(**told), [((), V1), ((), V2)])
        self.same(narrows(registry, {}, OTHER, ONE), [((), V2), ((), V1)])
        self.same(narrows(registry, {"a": ALL}, ONE, OTHER), None)
        self.same(narrows(registry, {}, ONE, ONE), [])
        self.same(way_round(**told, chosen={}), WAY)
        for chosen in (ONE, OTHER, {"b": V1}, {"b": V2}):
            self.same(way_round(**told, chosen=chosen), None)
        self.same(way_round(registry, {}, ONE, ONE, {}), [])
        self.same(way_round(registry, {}, ONE, ONE, ONE), None)
        self.same(ways_apart(**told), None)
        self.same(ways_apart(registry, {}, ONE, ONE), None)
        found = ways_apart(registry, {}, {"b": V1}, {"b": V2})
        self.same(sorted(found), [[("b", ()), ("b", V2)], [("b", V2)]])
        self.same([far(registry, {}, {"b": V1}, {"b": V2}), narrows(registry, {}, {"b": V1}, {"b": V2})], [1, []])

    def test_where_one_way_has_to_give_way(self):
        # The shortest way goes straight through what two ways apart must share out.
        kits = {kit: {V1: EMPTY, V2: EMPTY, V3: EMPTY} for kit in "abc"}
        registry = Registry(kits)
        first, last = {"a": V1, "b": V1, "c": V1}, {"a": V3, "b": V3, "c": V3}
        found = ways_apart(registry, {}, first, last)
        sets = [passed(registry, {}, first, way) for way in found]
        self.assertEqual([row[-1] for row in sets], [last, last])
        inner = [plain_line(kits, chosen) for row in sets for chosen in row[1:-1]]
        self.assertEqual(len(set(inner)), len(inner))

    def test_not_sound(self):
        for _, kits, roots, lines in road_cases(275, 30):
            registry, good = Registry(kits), plain_set(kits, lines[0])
            for bad in [chosen for chosen in plain_sets(kits) if plain_line(kits, chosen) not in lines][:3]:
                self.refuses(NotSound, way_round, registry, roots, good, good, bad)
                self.refuses(NotSound, way_round, registry, roots, good, bad, None)
                self.refuses(BadSet, way_round, registry, roots, good, good, {"zz": V1})
                for call, more in ((doing_lots, []), (barring_lots, []), (narrows, []), (way_round, [None]), (ways_apart, []),
                                   (way_within, [None]), (stillness, [None]), (is_stillness, [None, None])):
                    self.refuses(NotSound, call, registry, roots, bad, {"zz": V1}, *more)
                    self.refuses(BadSet, call, registry, roots, {"zz": V1}, bad, *more)
                    self.refuses(NotSound, call, registry, roots, good, bad, *more)
                    self.refuses(BadRoots, call, registry, None, None, None, *more)
                    self.refuses(NotRegistry, call, None, None, None, None, *more)


if __name__ == "__main__":
    unittest.main()
