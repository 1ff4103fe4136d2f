"""What holds across registries: versions that come and go, registries put together, registries called otherwise."""

import itertools
import unittest

from kitwright.floors import floor_list
from kitwright.loading import ahead_paper, group_paper, is_ahead_paper, is_group_paper, order_count
from kitwright.prices import (
    are_price_heights, cheapest_way, crossing, is_room_paper, least_room, price_heights, room_paper, way_price)
from kitwright.quarrels import quarrels
from kitwright.raising import bar_chain, bounded, falls, last_list, least_paper, lower, lowered, raised
from kitwright.registries import Registry, renamed, together
from kitwright.rulings import cheapest_gifts, is_ruling, left_states, ruling, stand_ins
from kitwright.staying import (
    ahead_word, always_ahead, is_staying_paper, is_word_paper, staying, staying_paper, word_paper)
from kitwright.touching import barring_lots, doing_lots, is_stillness, narrows, stillness, ways_apart
from tests.roadmaps import road_cases, road_map, some_pairs
from tests.samples import ALL, EMPTY, V1, Case
from tests.test_floors import all_pairs, cases as floor_cases
from tests.test_loading import load_cases
from tests.test_prices import some_prices, some_sizes
from tests.test_quarrels import cases as demand_cases
from tests.test_raising import some_bounds
from tests.test_staying import install_cases, stay_cases

# The kits so called ascend as before, so that all that depends on their order stays as it is.
LATER = {"a": "lib", "b": "log", "c": "net", "d": "p", "e": "q", "p": "x", "q": "y", "z": "zz"}
NINE = (9, 0, 0)


def called(names, value):
    """A value in which kits are called otherwise, at every depth."""
    if isinstance(value, dict):
        return {called(names, key): called(names, item) for key, item in value.items()}
    if isinstance(value, (list, tuple)):
        return type(value)([called(names, item) for item in value])
    return names.get(value, value) if isinstance(value, str) else value


def pair_of(registry):
    """A registry called otherwise, and the dict from all kits to their names there."""
    names = {kit: LATER[kit] for kit in registry.named}
    return renamed(registry, names), LATER


def can_grow(kits, kit):
    """Whether one version more of a kit leaves a registry within its limits."""
    sets = 1
    for name in kits:
        sets *= len(kits[name]) + 1 + (name == kit)
    return len(kits[kit]) < 4 and sets <= 600


def small_pairs(seed, many):
    """Small registries with roots and two sound sets, each with one more such that is called otherwise, put together."""
    found = []
    for rng, kits, roots, lines in road_cases(seed, many):
        registry = Registry(kits)
        if len(kits) <= 2 and "z" not in registry.named and len(roots) <= 2 and not set(roots) - set(kits):
            pairs = list(some_pairs(rng, kits, road_map(kits, lines), 3))
            found.append((rng, kits, roots, [(start, goal) for _, _, start, goal in pairs]))
    for (rng, kits, roots, pairs), (_, others, more, ends) in zip(found, found[1:]):
        sets = 1
        for versions in [*kits.values(), *others.values()]:
            sets *= len(versions) + 1
        if sets <= 600:
            yield rng, Registry(kits), roots, pairs, pair_of(Registry(others))[0], called(LATER, more), called(LATER, ends)


class CalledOtherwise(Case):
    def test_ways(self):
        crossed = 0
        for rng, kits, roots, lines in road_cases(401, 60):
            registry = Registry(kits)
            (other, names), prices, sizes = pair_of(registry), some_prices(rng, kits), some_sizes(rng, kits)
            told, costs, weights = called(names, roots), called(names, prices), called(names, sizes)
            for _, _, start, goal in some_pairs(rng, kits, road_map(kits, lines), 3):
                ends = called(names, [start, goal])
                for call in (doing_lots, barring_lots, narrows):
                    self.same(call(other, told, *ends), called(names, call(registry, roots, start, goal)))
                found = cheapest_way(registry, roots, prices, start, goal)
                self.same(cheapest_way(other, told, costs, *ends), called(names, found))
                self.same(price_heights(other, told, costs, ends[1]), price_heights(registry, roots, prices, goal))
                self.assertEqual(ways_apart(other, told, *ends) is None, ways_apart(registry, roots, start, goal) is None)
                way, cross = least_room(registry, roots, sizes, start, goal), crossing(registry, roots, {}, prices, start, goal)
                self.assertEqual(way is None, least_room(other, told, weights, *ends) is None)
                self.assertEqual(cross is None, crossing(other, told, {}, costs, *ends) is None)
                if way is not None:
                    self.same(least_room(other, told, weights, *ends)[0], way[0])
                    paper = called(names, room_paper(registry, roots, sizes, start, goal))
                    self.assertIs(is_room_paper(other, told, weights, *ends, way[0], paper), True)
                if cross is not None:
                    self.same(crossing(other, told, {}, costs, *ends)[0], cross[0])
                    crossed += cross[0] > 0
                paper = stillness(registry, roots, start, goal, registry.kits[:1])
                self.assertIs(is_stillness(other, told, *ends, other.kits[:1], paper), paper is not None)
        self.assertGreater(crossed, 20)

    def test_rulings(self):
        for rng, kits, demands in demand_cases(402, 60):
            registry = Registry(kits)
            other, names = pair_of(registry)
            told = [(word, names[kit], ranged) for word, kit, ranged in demands]
            against, free = ruling(registry, demands)
            self.same([[lot for lot, _ in part] for part in ruling(other, told)],
                      [[lot for lot, _ in part] for part in (against, free)])
            rows = [(lot, [tuple(row[:3]) + (names[row[3]],) if row[0] == "joined" else row for row in told])
                    for lot, told in against]
            # Given clauses ascend as before, so rows that are called otherwise show the same.
            self.assertIs(is_ruling(other, told, (rows, called(names, free))), True)
            prices = [rng.randint(0, 3) for _ in demands]
            self.same(cheapest_gifts(other, told, prices), cheapest_gifts(registry, demands, prices))
            for kit in kits:
                self.same(left_states(other, told, names[kit]), left_states(registry, demands, kit))
            for index in range(len(demands)):
                self.same(stand_ins(other, told, index), stand_ins(registry, demands, index))

    def test_floors(self):
        for rng, kits, roots in floor_cases(403, 80):
            registry, bounds = Registry(kits), some_bounds(rng, kits)
            other, names = pair_of(registry)
            told, limits = called(names, roots), called(names, bounds)
            self.same(falls(other), called(names, falls(registry)))
            self.same(bounded(other, limits), called(names, bounded(registry, bounds)))
            self.same(lowered(other, told, limits), called(names, lowered(registry, roots, bounds)))
            for call in (lower, last_list):
                self.same(call(other, told), called(names, call(registry, roots)))
            self.assertEqual(least_paper(other, told) is None, least_paper(registry, roots) is None)
            for kit, version in all_pairs(kits):
                self.same(bar_chain(other, limits, names[kit], version), called(names, bar_chain(registry, bounds, kit, version)))
            for kit in floor_list(registry, roots) or {}:
                self.same(raised(other, told, names[kit]), called(names, raised(registry, roots, kit)))

    def test_loading(self):
        for rng, kits, first, second in stay_cases(404, 80):
            registry = Registry(kits)
            other, names = pair_of(registry)
            ones = called(names, [first, second])
            self.same(staying(other, *ones), called(names, staying(registry, first, second)))
            lot, chains = staying_paper(registry, first, second)
            paper = (called(names, lot), {names[kit]: [(names[one], word) for one, word in chain] for kit, chain in chains.items()})
            self.assertIs(is_staying_paper(other, *ones, paper), True)
            for one, two in itertools.permutations(first, 2):
                for call, judge in ((ahead_paper, is_ahead_paper), (group_paper, is_group_paper)):
                    paper = call(registry, first, one, two)
                    self.assertIs(judge(other, ones[0], names[one], names[two], called(names, paper)), True)

    def test_words(self):
        for _, kits, roots, _ in install_cases(405, 40):
            registry = Registry(kits)
            other, names = pair_of(registry)
            told = called(names, roots)
            self.same(always_ahead(other, told), called(names, always_ahead(registry, roots)))
            for one, two in itertools.permutations(sorted(kits), 2):
                word, paper = word_paper(registry, roots, one, two)
                self.same(ahead_word(other, told, names[one], names[two]), word)
                self.assertIs(is_word_paper(other, told, names[one], names[two], (word, called(names, paper))), True)


class PutTogether(Case):
    def test_ways(self):
        seen = {"none": 0, "there": 0, "apart": 0}
        for rng, one, roots, pairs, other, more, ends in small_pairs(411, 200):
            both, all_roots = together(one, other), {**roots, **more}
            costs = [some_prices(rng, one.kits), some_prices(rng, other.kits)]
            for (start, goal), (begin, end) in zip(pairs, ends):
                told = (both, all_roots, {**start, **begin}, {**goal, **end})
                ways = [cheapest_way(one, roots, costs[0], start, goal), cheapest_way(other, more, costs[1], begin, end)]
                found = cheapest_way(*told[:2], {**costs[0], **costs[1]}, *told[2:])
                lots = [doing_lots(one, roots, start, goal), doing_lots(other, more, begin, end)]
                wanted = [tuple(sorted(lot + rest)) for lot in lots[0] for rest in lots[1]]
                self.same(doing_lots(*told), sorted(sorted(wanted), key=len))
                if None in ways:
                    seen["none"] += 1
                    self.same([found, narrows(*told), ways_apart(*told), barring_lots(*told)], [None, None, None, [()]])
                    continue
                seen["there"] += 1
                self.same([found[0], len(found[1])], [sum(way[0] for way in ways), sum(len(way[1]) for way in ways)])
                bars = barring_lots(one, roots, start, goal) + barring_lots(other, more, begin, end)
                self.same(barring_lots(*told), sorted(sorted(bars), key=len))
                if start != goal and begin != end:
                    # The one way can be gone first, or the other one.
                    seen["apart"] += 1
                    self.same(narrows(*told), [])
                    self.assertIsNotNone(ways_apart(*told))
        self.assertGreater(min(seen.values()), 10, seen)

    def test_room_beside_what_stays(self):
        for rng, kits, roots, lines in road_cases(412, 60):
            sets = 2
            for versions in kits.values():
                sets *= len(versions) + 1
            if len(kits) > 4 or len(roots) > 3 or sets > 600:
                continue
            registry, sizes = Registry(kits), some_sizes(rng, kits)
            both = together(registry, Registry({"x": {V1: EMPTY}}))
            for _, _, start, goal in some_pairs(rng, kits, road_map(kits, lines), 3):
                found = least_room(registry, roots, sizes, start, goal)
                more = least_room(both, {**roots, "x": ALL}, {**sizes, "x": {V1: 7}}, {**start, "x": V1}, {**goal, "x": V1})
                self.assertEqual(found is None, more is None)
                if found is not None:
                    self.same(more[0], found[0] + 7)

    def test_floors(self):
        for rng, kits, roots in floor_cases(413, 80, most_kits=2, most_versions=3):
            registry = Registry(kits)
            if len(kits) > 2 or "z" in {*registry.named, *roots}:
                continue
            (other, names), bounds = pair_of(registry), some_bounds(rng, kits)
            both, limits = together(registry, other), {**bounds, **called(names, bounds)}
            self.same(bounded(both, limits), bounded(registry, bounds) + bounded(other, called(names, bounds)))
            told, more = {**roots, **called(names, roots)}, called(names, roots)
            self.same(lowered(both, told, limits), {**lowered(registry, roots, bounds), **lowered(other, more, called(names, bounds))})
            lists = last_list(registry, roots), last_list(other, more)
            self.same(last_list(both, told), None if None in lists else {**lists[0], **lists[1]})
            self.same(falls(both), falls(registry))

    def test_loading(self):
        words = {"apart": 0, "either": 0}
        for _, kits, first, second in stay_cases(414, 150):
            registry = Registry(kits)
            if len(kits) > 2 or "z" in registry.named:
                continue
            other, names = pair_of(registry)
            both, ones = together(registry, other), called(names, [first, second])
            self.same(staying(both, {**first, **ones[0]}, {**second, **ones[1]}),
                      staying(registry, first, second) + staying(other, *ones))
            mixed = order_count(both, {**first, **ones[0]})
            self.assertGreaterEqual(mixed, order_count(registry, first) * order_count(other, ones[0]))
        for _, kits, roots, sets in install_cases(415, 60):
            registry = Registry(kits)
            if len(kits) > 2:
                continue
            other, names = pair_of(registry)
            both, told = together(registry, other), {**roots, **called(names, roots)}
            for one, two in itertools.permutations(sorted(kits), 2):
                self.same(ahead_word(both, told, one, two), ahead_word(registry, roots, one, two))
            for one, two in itertools.product(kits, repeat=2):
                there = any(one in chosen for chosen in sets) and any(two in chosen for chosen in sets)
                word = "either" if there else "apart"
                self.same(ahead_word(both, told, one, names[two]), word)
                words[word] += 1
        self.assertGreater(min(words.values()), 5)


class VersionsComeAndGo(Case):
    def test_ways(self):
        kept = 0
        for rng, kits, roots, lines in road_cases(421, 60):
            registry, kit = Registry(kits), rng.choice(sorted(kits))
            if not can_grow(kits, kit):
                continue
            later, prices, sizes = registry.published(kit, NINE, EMPTY), some_prices(rng, kits), some_sizes(rng, kits)
            more = {**sizes, kit: {**sizes[kit], NINE: 3}}
            for _, _, start, goal in some_pairs(rng, kits, road_map(kits, lines), 3):
                found = cheapest_way(registry, roots, prices, start, goal)
                self.same(cheapest_way(later.withdrawn(kit, NINE), roots, prices, start, goal), found)
                if found is None:
                    continue
                kept += 1
                self.same(way_price(later, roots, prices, start, found[1]), found[0])
                self.assertLessEqual(cheapest_way(later, roots, prices, start, goal)[0], found[0])
                heights = price_heights(later, roots, prices, goal)
                least = {line: heights[line] for line in price_heights(registry, roots, prices, goal)}
                self.assertIs(are_price_heights(registry, roots, prices, goal, least), True)
                room = least_room(registry, roots, sizes, start, goal)[0]
                self.assertLessEqual(least_room(later, roots, more, start, goal)[0], room)
                for lot in doing_lots(registry, roots, start, goal):
                    self.assertTrue(any(set(told) <= set(lot) for told in doing_lots(later, roots, start, goal)))
                self.assertLessEqual(set(narrows(later, roots, start, goal)), set(narrows(registry, roots, start, goal)))
        self.assertGreater(kept, 50)

    def test_demands(self):
        for rng, kits, demands in demand_cases(422, 60):
            registry, kit = Registry(kits), rng.choice(sorted(kits))
            if not can_grow(kits, kit):
                continue
            later = registry.published(kit, NINE, EMPTY)
            for lot in quarrels(later, demands):
                self.assertTrue(any(set(told) <= set(lot) for told in quarrels(registry, demands)))
            for name in kits:
                self.assertLessEqual(set(left_states(registry, demands, name)), set(left_states(later, demands, name)))
            prices = [1 for _ in demands]
            self.assertLessEqual(cheapest_gifts(later, demands, prices)[0], cheapest_gifts(registry, demands, prices)[0])
            self.same(ruling(later.withdrawn(kit, NINE), demands), ruling(registry, demands))

    def test_floors(self):
        lowers = 0
        for rng, kits, roots in floor_cases(423, 150):
            registry, kit = Registry(kits), rng.choice(sorted(kits))
            if not can_grow(kits, kit):
                continue
            later, found = registry.published(kit, NINE, EMPTY), lower(registry, roots)
            if floor_list(registry, roots) is not None and found is not None:
                # The floor list stays, and so does each sound set.
                lowers += 1
                self.assertIsNotNone(lower(later, roots))
                self.same(least_paper(later, roots), None)
            self.same(lower(later.withdrawn(kit, NINE), roots), found)
            self.assertIn((kit, NINE), bounded(later, {}))
            self.assertNotIn((kit, NINE), bounded(later, {kit: V1}))
        self.assertGreater(lowers, 3)

    def test_loading(self):
        for rng, kits, first, second in stay_cases(424, 80):
            registry, kit = Registry(kits), rng.choice(sorted(kits))
            if not can_grow(kits, kit):
                continue
            later = registry.published(kit, NINE, ({}, {}, ("a",)))
            self.same(staying_paper(later, first, second), staying_paper(registry, first, second))
            for one, two in itertools.permutations(first, 2):
                self.same(ahead_paper(later, first, one, two), ahead_paper(registry, first, one, two))
        for rng, kits, roots, _ in install_cases(425, 50):
            registry, kit = Registry(kits), rng.choice(sorted(kits))
            if not can_grow(kits, kit):
                continue
            later = registry.published(kit, NINE, EMPTY)
            for one, two in itertools.permutations(sorted(kits), 2):
                # All installs stay, so what stood either way still does.
                word, after = ahead_word(registry, roots, one, two), ahead_word(later, roots, one, two)
                self.assertTrue(word == "apart" or after in (word, "either"), (word, after))
                self.same(ahead_word(later.withdrawn(kit, NINE), roots, one, two), word)

    def test_orders(self):
        for rng, kits, chosen in load_cases(426, 60):
            registry = Registry(kits)
            for kit, version in all_pairs(kits):
                if chosen.get(kit) != version and len(all_pairs(kits)) > 1:
                    self.same(order_count(registry.withdrawn(kit, version), chosen), order_count(registry, chosen))


if __name__ == "__main__":
    unittest.main()
