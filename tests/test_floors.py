"""Promises [40] to [43]: registries made of floors, what is met, the floor list, chains and closed lots."""

import itertools
import random
import unittest

from kitwright.errors import BadRoots, NoKit, NotFloors, NotRange, NotRegistry, NoVersion
from kitwright.floors import first_pair, floor_list, is_closed, is_floors, is_pair_chain, lacks, met, pair_chain
from kitwright.ranges import Range
from kitwright.registries import Registry, renamed, together
from kitwright.sets import is_sound, trimmed
from tests.samples import (
    ALL, APP, EMPTY, HIGH, LOW, NONE, V1, V2, V3, Case, any_values, has, plain_installs, plain_sound, some_kits, some_roots)

FEET = [(0, 0, 0), V1, V1, (1, 0, 1), V2, (2, 0, 1), V3]
FREE = {V1: EMPTY, V2: EMPTY}
HAND = {"b": {V1: ({"d": HIGH}, {}, ()), V2: EMPTY}, "c": {V1: ({"b": HIGH}, {}, ())}, "d": {V2: EMPTY}}
HAND_ROOTS = {"b": Range([(V1, None)]), "c": Range([(V1, None)])}


def floor(foot):
    """The floor with a foot."""
    return Range([(foot, None)])


def some_floors(rng, names, most, late):
    """A dict from some names to floors; late ones at times."""
    lot = rng.sample(names, rng.randint(0, min(most, len(names))))
    return {name: floor(rng.choice(FEET if rng.random() < late else FEET[:5])) for name in lot}


def floor_kits(rng, most_kits=4, most_versions=3, late=0.15, extra=0.1):
    """A dict with which a registry made of floors can be made."""
    names = list("abcde"[:rng.randint(1, most_kits)])
    kits = {}
    for name in names:
        versions = sorted({rng.choice([V1, V2, V3, (1, 0, 1)]) for _ in range(rng.randint(1, most_versions))})
        kits[name] = {}
        for version in versions:
            told = names + ["z"] if rng.random() < extra else names
            kits[name][version] = (some_floors(rng, told, 2, late), {}, tuple(sorted(rng.sample(names, rng.randint(0, 1)))))
    return kits


def floor_roots(rng, kits, late=0.1):
    """Roots that are floors."""
    names = sorted(kits) + (["z"] if rng.random() < 0.1 else [])
    return some_floors(rng, names, 3, late)


def cases(seed, many, **told):
    """Triples of a generator, kits and roots, all made of floors."""
    rng = random.Random(seed)
    for at in range(many):
        kits = floor_kits(rng, **({"most_kits": 5, "most_versions": 2} if at % 10 == 0 else told))
        yield rng, kits, floor_roots(rng, kits)


# The plain reckoning.

def plain_first(kits, kit, ranged):
    """The first pair."""
    inside = [version for version in kits.get(kit, {}) if has(ranged, version)]
    return (kit, min(inside)) if inside else None


def plain_firsts(kits, wants):
    """The set of the first pairs of what is wanted."""
    return {plain_first(kits, kit, wants[kit]) for kit in wants} - {None}


def plain_closure(kits, pairs):
    """What is met from some pairs."""
    found = set(pairs)
    while True:
        more = {one for kit, version in found for one in plain_firsts(kits, kits[kit][version][0])} - found
        if not more:
            return found
        found |= more


def plain_lacks(kits, roots):
    """All lacks, those of None ahead."""
    found = sorted((None, kit) for kit in roots if not plain_first(kits, kit, roots[kit])) if roots else []
    pairs = plain_closure(kits, plain_firsts(kits, roots))
    return found + sorted((pair, kit) for pair in pairs for kit, ranged in kits[pair[0]][pair[1]][0].items()
                          if not plain_first(kits, kit, ranged))


def plain_list(kits, pairs):
    """The set with the latest versions."""
    return {kit: max(version for other, version in pairs if other == kit) for kit in sorted({kit for kit, _ in pairs})}


def plain_floor_list(kits, roots):
    """The floor list, None if there is a lack."""
    return None if plain_lacks(kits, roots) else plain_list(kits, plain_closure(kits, plain_firsts(kits, roots)))


def plain_chains(kits, starts):
    """All chains without a pair twice, from some pairs."""
    rows = [(pair,) for pair in sorted(starts)]
    for row in rows:
        for pair in plain_firsts(kits, kits[row[-1][0]][row[-1][1]][0]):
            if pair not in row:
                rows.append(row + (pair,))
    return rows


def all_pairs(kits):
    """All pairs, ascending."""
    return sorted((kit, version) for kit in kits for version in kits[kit])


def plain_is_closed(kits, roots, lot):
    """Whether a lot is closed, and no lack comes up."""
    wants = [roots] + [kits[kit][version][0] for kit, version in lot]
    return all(plain_first(kits, kit, ranged) in lot for told in wants for kit, ranged in told.items())


class Promise40(Case):
    def test_is_floors(self):
        seen = {True: 0, False: 0}
        rng = random.Random(211)
        for at in range(200):
            kits = floor_kits(rng) if at % 2 else some_kits(rng, most=1)
            roots = floor_roots(rng, kits) if at % 3 else some_roots(rng, kits)
            told = [manifest for versions in kits.values() for manifest in versions.values()]
            ranges = [ranged for wants, _, _ in told for ranged in wants.values()] + list(roots.values())
            wanted = all(len(ranged.stretches) == 1 and ranged.stretches[0][1] is None for ranged in ranges)
            wanted = wanted and all(not clashes for _, clashes, _ in told)
            self.assertIs(is_floors(Registry(kits), roots), wanted)
            seen[wanted] += 1
        self.assertGreater(min(seen.values()), 30)

    def test_by_hand(self):
        registry = Registry(HAND)
        self.assertIs(is_floors(registry=registry, roots=HAND_ROOTS), True)
        self.assertIs(is_floors(registry, {"zz": ALL}), True)
        for ranged in (LOW, NONE, Range([(V1, V2), (V3, None)]), Range([(V1, (1, 0, 1))])):
            self.assertIs(is_floors(registry, {"b": HIGH, "zz": ranged}), False)
            self.assertIs(is_floors(Registry({"a": {V1: ({"q": ranged}, {}, ())}}), {}), False)
        self.assertIs(is_floors(Registry({"a": {V1: ({}, {"q": NONE}, ())}}), {}), False)
        self.assertIs(is_floors(Registry({"a": {V1: ({"q": HIGH}, {}, ("b",))}}), {}), True)
        # Stretches that touch are one stretch.
        self.assertIs(is_floors(registry, {"b": Range([(V1, V2), (V2, V3), (V3, None)])}), True)
        self.assertIs(is_floors(Registry(APP), {}), False)

    def test_first_pair(self):
        for rng, kits, _ in cases(212, 60):
            registry = Registry(kits)
            for kit in [*kits, "zz"]:
                for foot in FEET:
                    self.same(self.answers_anew(first_pair, registry, kit, floor(foot)), plain_first(kits, kit, floor(foot)))
        registry = Registry(APP)
        self.same(first_pair(registry=registry, kit="lib", ranged=floor((1, 0, 1))), ("lib", V2))
        self.same(first_pair(registry, "lib", floor((2, 0, 1))), None)
        self.same(first_pair(registry, "zz", ALL), None)
        for value in any_values():
            if not isinstance(value, Registry):
                self.refuses(NotRegistry, first_pair, value, None, None)
            if not (isinstance(value, str) and value in ("a", "kit", "none")):
                self.refuses(NoKit, first_pair, registry, value, None, kit=value)
            self.refuses(NotRange, first_pair, registry, "lib", value)
            self.refuses(NotRange, first_pair, registry, "zz", value)
        for ranged in (LOW, NONE, Range([(V1, V2), (V3, None)])):
            self.refuses(NotRange, first_pair, registry, "lib", ranged)

    def test_not_floors(self):
        good, bad = Registry(HAND), Registry(APP)
        calls = [(met, []), (lacks, []), (floor_list, []), (pair_chain, ["b", V1]), (pair_chain, [None, None]),
                 (is_pair_chain, [()]), (is_pair_chain, [None]), (is_closed, [()]), (is_closed, [None])]
        for call, more in calls:
            self.refuses(NotFloors, call, bad, {}, *more)
            self.refuses(NotFloors, call, good, {"b": LOW}, *more)
            self.refuses(NotFloors, call, good, {"b": HIGH, "c": NONE}, *more)
            self.refuses(NotFloors, call, Registry({"b": {V1: ({}, {"c": LOW}, ())}}), {}, *more)
            self.refuses(BadRoots, call, bad, None, *more)
            self.refuses(BadRoots, call, bad, {"b": None}, *more)
            self.refuses(NotRegistry, call, None, None, *more)
            call(good, HAND_ROOTS, *(more if more != [None, None] else ["b", V1]))


class Promise41(Case):
    def test_met_and_lacks(self):
        lacking = 0
        for _, kits, roots in cases(213, 250):
            registry = Registry(kits)
            pairs = plain_closure(kits, plain_firsts(kits, roots))
            self.same(self.answers_anew(met, registry, roots), tuple(sorted(pairs)))
            self.same(self.answers_anew(lacks, registry, roots), plain_lacks(kits, roots))
            lacking += bool(plain_lacks(kits, roots))
            # Each met pair comes from one root alone.
            alone = [met(registry, {kit: roots[kit]}) for kit in roots]
            self.assertEqual(set(itertools.chain(*alone)), pairs)
        self.assertGreater(lacking, 40)

    def test_two_roots(self):
        for rng, kits, roots in cases(214, 100):
            registry, more = Registry(kits), floor_roots(rng, kits)
            both = {**more, **roots}
            more = {kit: both[kit] for kit in more}
            if len(both) <= 4:
                self.assertEqual(set(met(registry, both)), set(met(registry, roots)) | set(met(registry, more)))
                lists = [floor_list(registry, told) for told in (roots, more, both)]
                if None not in lists[:2]:
                    one, other, found = lists
                    self.same(found, {kit: max(told[kit] for told in (one, other) if kit in told)
                                      for kit in sorted({*one, *other})})

    def test_by_hand(self):
        registry = Registry(HAND)
        self.same(met(registry=registry, roots=HAND_ROOTS), (("b", V1), ("b", V2), ("c", V1), ("d", V2)))
        self.same(lacks(registry=registry, roots=HAND_ROOTS), [])
        self.same(met(registry, {}), ())
        self.same(lacks(registry, {}), [])
        self.same(lacks(registry, {"zz": ALL, "c": floor(V2), "b": HIGH, "aa": ALL}), [(None, "aa"), (None, "c"), (None, "zz")])
        kits = {"a": {V1: ({"b": HIGH, "q": ALL, "a": HIGH}, {}, ())}, "b": {V2: ({"c": ALL, "b": floor(V3)}, {}, ())}}
        self.same(lacks(Registry(kits), {"b": ALL, "a": ALL, "c": ALL}), [
            (None, "c"), (("a", V1), "a"), (("a", V1), "q"), (("b", V2), "b"), (("b", V2), "c")])
        self.same(met(Registry(kits), {"a": ALL}), (("a", V1), ("b", V2)))
        ring = {"a": {V1: ({"b": ALL}, {}, ())}, "b": {V1: ({"a": ALL, "b": ALL}, {}, ())}}
        self.same(met(Registry(ring), {"b": ALL}), (("a", V1), ("b", V1)))


class Promise42(Case):
    def test_floor_lists(self):
        there = 0
        for _, kits, roots in cases(215, 250):
            registry = Registry(kits)
            found = self.answers_anew(floor_list, registry, roots)
            self.same(found, plain_floor_list(kits, roots))
            if found is None:
                continue
            there += len(found) > 1
            self.assertIn(found, plain_sound(kits, roots))
            self.assertIn(trimmed(registry, roots, found), plain_installs(kits, roots))
        self.assertGreater(there, 40)

    def test_least_closed_lot(self):
        for _, kits, roots in cases(216, 60, most_kits=3, most_versions=2):
            if len(all_pairs(kits)) > 6:
                continue
            pairs = met(Registry(kits), roots)
            lots = [lot for size in range(len(all_pairs(kits)) + 1) for lot in itertools.combinations(all_pairs(kits), size)]
            for lot in lots:
                wants = [roots] + [kits[kit][version][0] for kit, version in lot]
                if all(first in lot for told in wants for first in plain_firsts(kits, told)):
                    self.assertLessEqual(set(pairs), set(lot))

    def test_versions_come_and_go(self):
        for rng, kits, roots in cases(217, 120):
            registry, before = Registry(kits), plain_floor_list(kits, roots)
            kit = rng.choice(sorted(kits))
            sets = 1
            for versions in kits.values():
                sets *= len(versions) + 1
            if before is not None and len(kits[kit]) < 4 and sets // (len(kits[kit]) + 1) * (len(kits[kit]) + 2) <= 600:
                manifest = (some_floors(rng, [*kits, "z"], 2, 0.5), {}, ())
                self.same(floor_list(registry.published(kit, (8, 0, 0), manifest), roots), before)
            for pair in all_pairs(kits):
                if pair not in met(registry, roots) and len(all_pairs(kits)) > 1:
                    self.same(floor_list(registry.withdrawn(*pair), roots), before)
                    self.same(met(registry.withdrawn(*pair), roots), met(registry, roots))

    def test_by_hand(self):
        registry = Registry(HAND)
        self.same(floor_list(registry=registry, roots=HAND_ROOTS), {"b": V2, "c": V1, "d": V2})
        self.same(trimmed(registry, HAND_ROOTS, floor_list(registry, HAND_ROOTS)), {"b": V2, "c": V1})
        self.same(floor_list(registry, {}), {})
        self.same(floor_list(registry, {"b": ALL}), {"b": V1, "d": V2})
        self.same(floor_list(registry, {"zz": ALL}), None)
        self.same(floor_list(registry, {"b": floor(V3)}), None)
        self.assertTrue(is_sound(registry, {"b": ALL}, {"b": V1, "d": V2}))

    def test_put_together_and_called_otherwise(self):
        for rng, kits, roots in cases(218, 40, most_kits=2, most_versions=2):
            registry = Registry(kits)
            if len(kits) > 2 or "z" in registry.named:
                continue
            names = {kit: kit + "x" for kit in registry.named}
            called, later = renamed(registry, names), {names.get(kit, kit): ranged for kit, ranged in roots.items()}
            wanted = met(registry, roots)
            self.same(met(called, later), tuple((names[kit], version) for kit, version in wanted))
            both = together(registry, called)
            shared = {**{kit: ranged for kit, ranged in roots.items() if kit in kits}, **later}
            if len(shared) <= 4:
                self.assertEqual(set(met(both, shared)), set(wanted) | set(met(called, later)))


class Promise43(Case):
    def test_least_chains(self):
        longer = 0
        for _, kits, roots in cases(219, 200):
            registry = Registry(kits)
            rows = plain_chains(kits, plain_firsts(kits, roots))
            for pair in all_pairs(kits):
                wanted = min([(len(row), row) for row in rows if row[-1] == pair], default=(0, None))[1]
                found = self.answers_anew(pair_chain, registry, roots, *pair)
                self.same(found, wanted)
                self.assertEqual(found is not None, pair in met(registry, roots))
                self.assertIs(is_pair_chain(registry, roots, found), found is not None)
                longer += found is not None and len(found) > 2
        self.assertGreater(longer, 20)

    def test_is_pair_chain(self):
        for _, kits, roots in cases(220, 60, most_kits=3):
            registry, pairs = Registry(kits), all_pairs(kits)
            for size in (1, 2, 3):
                for row in itertools.islice(itertools.product(pairs, repeat=size), 150):
                    wanted = row[0] in plain_firsts(kits, roots) and all(
                        other in plain_firsts(kits, kits[one[0]][one[1]][0]) for one, other in zip(row, row[1:]))
                    self.assertIs(is_pair_chain(registry, roots, row), wanted)
                    self.assertIs(is_pair_chain(registry, roots, list(row)), False)

    def test_is_closed(self):
        closed = 0
        for _, kits, roots in cases(221, 60, most_kits=3):
            registry, pairs = Registry(kits), all_pairs(kits)
            if len(pairs) > 7:
                continue
            lots = [lot for size in range(len(pairs) + 1) for lot in itertools.combinations(pairs, size)]
            good = [lot for lot in lots if plain_is_closed(kits, roots, lot)]
            for lot in lots:
                self.assertIs(is_closed(registry, roots, lot), lot in good)
                if len(lot) > 1:
                    self.assertIs(is_closed(registry, roots, lot[::-1]), False)
                if lot:
                    self.assertIs(is_closed(registry, roots, lot + lot[-1:]), False)
                    self.assertIs(is_closed(registry, roots, list(lot)), False)
            closed += len(good) > 1
            if not plain_lacks(kits, roots):
                self.assertIs(is_closed(registry, roots, met(registry, roots)), True)
                for pair in pairs:
                    self.assertEqual(pair_chain(registry, roots, *pair) is None, any(pair not in lot for lot in good))
                for lot in good:
                    self.assertIn(plain_list(kits, lot), plain_sound(kits, roots))
        self.assertGreater(closed, 10)

    def test_by_hand(self):
        registry = Registry(HAND)
        self.same(pair_chain(registry=registry, roots=HAND_ROOTS, kit="d", version=V2), (("b", V1), ("d", V2)))
        self.same(pair_chain(registry, HAND_ROOTS, "b", V2), (("c", V1), ("b", V2)))
        self.same(pair_chain(registry, {}, "b", V2), None)
        self.assertIs(is_pair_chain(registry=registry, roots=HAND_ROOTS, value=(("b", V1), ("d", V2))), True)
        self.assertIs(is_pair_chain(registry, HAND_ROOTS, (("b", V2),)), False)
        closed = (("b", V1), ("b", V2), ("c", V1), ("d", V2))
        self.assertIs(is_closed(registry=registry, roots=HAND_ROOTS, value=closed), True)
        for at in range(4):
            self.assertIs(is_closed(registry, HAND_ROOTS, closed[:at] + closed[at + 1:]), False)
        self.assertIs(is_closed(registry, {}, ()), True)
        self.assertIs(is_closed(registry, {"zz": ALL}, ()), False)
        ring = Registry({"a": {V1: ({"a": ALL, "b": ALL}, {}, ())}, "b": {V1: ({"a": ALL}, {}, ())}})
        a, b = ("a", V1), ("b", V1)
        self.same(pair_chain(ring, {"a": ALL}, "b", V1), (a, b))
        self.assertIs(is_pair_chain(ring, {"a": ALL}, (a, a, b, a, b)), True)
        # Of two shortest chains the least one, whatever the order of the roots.
        kits = {"a": {V1: ({"d": ALL}, {}, ())}, "b": {V1: ({"d": ALL}, {}, ())}, "d": {V1: EMPTY}}
        self.same(pair_chain(Registry(kits), {"b": ALL, "a": ALL}, "d", V1), (a, ("d", V1)))

    def test_no_chain_no_closed_lot(self):
        registry, roots = Registry(HAND), HAND_ROOTS
        for value in any_values() + [(("b", (True, 0, 0)),), (["b", V1],), (("b", [1, 0, 0]),), ("b", V1), (("b",),),
                                     [("b", V1)], {("b", V1): 1}, (("b", V1, 1),), (("zz", V1),), (("b", V3),)]:
            self.assertIs(is_pair_chain(registry, roots, value), False, repr(value))
            self.assertIs(is_pair_chain(registry, roots, (("b", V1), value)), False, repr(value))
            self.assertIs(is_pair_chain(registry, roots, (("b", V1), value, ("d", V2))), False, repr(value))
            self.assertIs(is_closed(registry, roots, value), False, repr(value))
            self.assertIs(is_closed(registry, {}, (value,)), False, repr(value))
            if not isinstance(value, str) or value not in "bcd":
                self.refuses(NoKit, pair_chain, registry, roots, value, None, kit=value)
            if repr(value) != "(1, 0, 0)":
                self.refuses(NoVersion, pair_chain, registry, roots, "b", value, version=value)
        self.refuses(NoVersion, pair_chain, registry, roots, "d", V1, version=V1)


if __name__ == "__main__":
    unittest.main()
