"""Promises [80] and [81]: locks, their faults, who wants whom in them, and what a registry has not of them."""

import copy
import itertools
import random
import unittest

from kitwright.errors import BadLot, BadPins, BadRoots, BadSet, NotLock, NotRegistry, NotSound
from kitwright.locks import Lock, leaves_with, lock_faults, lock_of, lost_pins, wanted_by
from kitwright.registries import Registry, renamed
from kitwright.sets import installs
from tests.samples import (
    ALL, APP, EMPTY, HIGH, LOW, NONE, V1, V2, V3, Case, any_values, has, kits_dict, plain_installs, plain_sets,
    some_manifest, some_ranges, some_version, spoil, strict)
from tests.test_webs import web_cases, web_kits


def lock_cases(seed, many):
    """Quadruples of a generator, kits, roots, and one of their installs, most of them of two kits or more."""
    rng = random.Random(seed)
    while many > 0:
        kits = web_kits(rng)
        if rng.random() < 0.5:
            for kit in kits:
                for version in kits[kit]:
                    kits[kit][version] = kits[kit][version][:2] + (tuple(sorted(rng.sample("abcd", 2))),)
        roots = {kit: rng.choice([ALL, ALL, LOW, HIGH]) for kit in rng.sample(sorted(kits), rng.randint(0, min(2, len(kits))))}
        found = [chosen for chosen in plain_installs(kits, roots) if len(chosen) > 1 or rng.random() < 0.1]
        if found:
            many -= 1
            yield rng, kits, dict(sorted(roots.items())), rng.choice(found)


def some_pins(rng, names="abcd"):
    """Pins of a lock."""
    return {kit: (some_version(rng), some_manifest(rng, list(names) + ["z"]))
            for kit in rng.sample(names, rng.randint(0, 4))}


def some_lock(rng):
    """A lock, which is seldom one of an install."""
    return Lock(some_ranges(rng, list("abcdz"), 3), some_pins(rng))


def near_locks(rng, lock):
    """Locks with a pin, a root or a manifest otherwise."""
    roots, pins = lock.roots, lock.pins
    found = []
    for kit in list(pins) + ["z"]:
        version, manifest = pins.get(kit, (V1, EMPTY))
        found.append(Lock(roots, {other: pins[other] for other in pins if other != kit}))
        for other in [(V2, manifest), (V3, manifest), (version, some_manifest(rng, list("abcdz"))), (version, EMPTY)]:
            if len({*pins, kit}) <= 5:
                found.append(Lock(roots, {**pins, kit: other}))
        found.append(Lock({other: roots[other] for other in roots if other != kit}, pins))
        if len({*roots, kit}) <= 4:
            found += [Lock({**roots, kit: ranged}, pins) for ranged in (ALL, NONE, HIGH)]
    return found


# The test's own look.

def plain_come_to(pins, kits):
    """The kits that are come to by wants."""
    found = {kit for kit in kits if kit in pins}
    while True:
        more = {other for kit in found for other in pins[kit][1][0] if other in pins} - found
        if not more:
            return found
        found |= more


def plain_lock_faults(lock):
    """The faults of a lock, by the words of the promise."""
    roots, pins, found = lock.roots, lock.pins, []
    found += [("root", kit) for kit in roots if kit not in pins or not has(roots[kit], pins[kit][0])]
    for kit, (_, (wants, bars, _)) in pins.items():
        found += [("want", kit, other) for other in wants if other not in pins or not has(wants[other], pins[other][0])]
        found += [("clash", kit, other) for other in bars if other in pins and has(bars[other], pins[other][0])]
    return sorted(found + [("stray", kit) for kit in pins if kit not in plain_come_to(pins, roots)])


class Locks(Case):
    def test_properties(self):
        for rng, kits, roots, chosen in lock_cases(521, 60):
            roots, pins = copy.deepcopy([roots, {kit: (version, kits[kit][version]) for kit, version in chosen.items()}])
            lock = Lock(dict(reversed(roots.items())), dict(reversed(pins.items())))
            self.same(lock.roots, roots)
            self.same(lock.pins, pins)
            self.same(lock.chosen, chosen)
            for value in (lock.roots, lock.pins, lock.chosen):
                self.rising(value)
                spoil(value)
            self.same([lock.roots, lock.pins, lock.chosen], [roots, pins, chosen])
            told = strict(lock)
            spoil([roots, pins, chosen])
            self.assertEqual(strict(lock), told)

    def test_equal_and_unlike(self):
        unlike = 0
        for rng, kits, roots, chosen in lock_cases(522, 60):
            lock = lock_of(Registry(kits), roots, chosen)
            self.assertTrue(lock == Lock(lock.roots, lock.pins) and not lock != Lock(lock.roots, lock.pins))
            for other in near_locks(rng, lock):
                same = strict(lock) == strict(other)
                self.assertEqual([lock == other, lock != other, other == lock], [same, not same, same])
                unlike += not same
        self.assertGreater(unlike, 300)
        for value in any_values() + [({}, {})]:
            self.assertFalse(Lock({"a": ALL}, {}) == value or value == Lock({"a": ALL}, {}))

    def test_what_is_refused(self):
        pin = (V1, EMPTY)
        for value in any_values() + [{"a": ALL, "b": ALL, "c": ALL, "d": ALL, "e": ALL}, {"A": ALL}, {"a": LOW, "b": None}]:
            if value != {} and not (isinstance(value, dict) and value == {"a": NONE}):
                self.refuses(BadRoots, Lock, value, {})
                self.refuses(BadRoots, Lock, value, None)
        for value in any_values() + [{kit: pin for kit in "abcdef"}, {"A": pin}, {"a": list(pin)}, {"a": (V1, EMPTY, 1)},
                                     {"a": (V1,)}, {"a": (V1, list(EMPTY))}, {"a": ((True, 0, 0), EMPTY)}, {"a": pin, 1: pin},
                                     {"a": (V1, ({}, {}, ["b"]))}, {"a": (V1, ({}, {}, ("c", "b")))}, [("a", pin)],
                                     {"a": (V1, ({"b": None}, {}, ()))}, {"a": (V1, dict.fromkeys("abcde", ALL), {}, ())}]:
            if value != {} or not isinstance(value, dict):
                self.refuses(BadPins, Lock, {}, value)
        self.same(len(Lock({}, {kit: pin for kit in "abcde"}).pins), 5)
        self.same(Lock(roots={}, pins={"a": pin}).chosen, {"a": V1})
        for value in any_values():
            if not isinstance(value, Lock):
                for call, more in [(lock_faults, []), (wanted_by, []), (leaves_with, [()]), (leaves_with, [None])]:
                    self.refuses(NotLock, call, value, *more)
                self.refuses(NotLock, lost_pins, Registry(APP), value)
        self.refuses(NotRegistry, lost_pins, None, None)


class LocksOfInstalls(Case):
    def test_lock_of(self):
        other = 0
        for rng, kits, roots in web_cases(523, 80):
            registry, good = Registry(kits), plain_installs(kits, roots)
            for chosen in rng.sample(plain_sets(kits), min(20, len(plain_sets(kits)))) + good[:3]:
                if chosen not in good:
                    other += 1
                    self.refuses(NotSound, lock_of, registry, roots, chosen)
                    continue
                lock = self.answers_anew(lock_of, registry, roots, chosen)
                wanted = Lock(roots, {kit: (chosen[kit], kits[kit][chosen[kit]]) for kit in chosen})
                self.same(lock, wanted)
                self.same([lock.chosen, lock_faults(lock), lost_pins(registry, lock)], [chosen, [], []])
        self.assertGreater(other, 100)

    def test_order_of_errors(self):
        registry = Registry(APP)
        self.refuses(NotRegistry, lock_of, None, None, None)
        self.refuses(BadRoots, lock_of, registry, None, None)
        self.refuses(BadSet, lock_of, registry, {"app": HIGH}, None)
        self.refuses(NotSound, lock_of, registry, {"app": HIGH}, {})
        # Sound, but the lib is not reached.
        self.refuses(NotSound, lock_of, registry, {}, {"lib": V1})

    def test_no_faults_exactly_if_it_is_an_install(self):
        seen = {"install": 0, "none": 0}
        for rng, kits, roots, chosen in lock_cases(524, 60):
            for lock in [lock_of(Registry(kits), roots, chosen)] + near_locks(rng, lock_of(Registry(kits), roots, chosen)):
                pins = lock.pins
                if not pins:
                    continue
                own = {kit: {version: manifest} for kit, (version, manifest) in pins.items()}
                more = {kit: {**own[kit], (8, 8, 8): some_manifest(rng, list("abcd"))} for kit in own}
                if len(more) < 5:
                    more["y"] = {V1: EMPTY}
                for registry in (own, more):
                    right = lock.chosen in installs(Registry(registry), lock.roots)
                    self.assertEqual(lock_faults(lock) == [], right)
                    self.same(lost_pins(Registry(registry), lock), [])
                seen["install" if right else "none"] += 1
        self.assertGreater(min(seen.values()), 100, seen)


class Faults(Case):
    def test_faults(self):
        seen = {"root": 0, "want": 0, "clash": 0, "stray": 0}
        rng = random.Random(525)
        for _ in range(400):
            lock = some_lock(rng)
            wanted = plain_lock_faults(lock)
            self.same(self.answers_anew(lock_faults, lock), wanted)
            for row in wanted:
                seen[row[0]] += 1
        self.assertGreater(min(seen.values()), 100, seen)

    def test_by_hand(self):
        pins = {"a": (V1, ({"a": HIGH, "b": LOW, "c": ALL}, {"b": ALL, "d": ALL, "a": LOW}, ())), "b": (V2, EMPTY), "e": (V1, EMPTY)}
        self.same(lock_faults(lock=Lock({"a": HIGH, "z": ALL}, pins)), [
            ("clash", "a", "a"), ("clash", "a", "b"), ("root", "a"), ("root", "z"), ("stray", "e"), ("want", "a", "a"),
            ("want", "a", "b"), ("want", "a", "c")])
        self.same(lock_faults(Lock({}, {})), [])
        self.same(lock_faults(Lock({"a": ALL}, {})), [("root", "a")])
        # A ring of wants that no root comes to is stray.
        ring = {"a": (V1, ({"b": ALL}, {}, ())), "b": (V1, ({"a": ALL}, {}, ()))}
        self.same(lock_faults(Lock({}, ring)), [("stray", "a"), ("stray", "b")])
        self.same(lock_faults(Lock({"b": ALL}, ring)), [])


class Wants(Case):
    def test_wanted_by(self):
        rng = random.Random(526)
        several = 0
        for _ in range(200):
            lock = some_lock(rng)
            pins = lock.pins
            wanted = {kit: tuple(sorted(other for other in pins if kit in pins[other][1][0])) for kit in sorted(pins)}
            self.same(self.answers_anew(wanted_by, lock), wanted)
            several += any(len(row) > 1 for row in wanted.values())
        self.assertGreater(several, 20)
        own = Lock({}, {"a": (V1, ({"a": NONE, "z": ALL}, {"b": ALL}, ("b",))), "b": (V1, EMPTY)})
        self.same(wanted_by(lock=own), {"a": ("a",), "b": ()})

    def test_leaves_with(self):
        rng = random.Random(527)
        more = some = 0
        for _ in range(300):
            lock = some_lock(rng)
            roots, pins = sorted(lock.roots), lock.pins
            lots = [lot for size in range(len(roots) + 1) for lot in itertools.combinations(roots, size)]
            rows = {}
            for lot in lots:
                left = plain_come_to(pins, [kit for kit in roots if kit not in lot])
                rows[lot] = tuple(sorted(plain_come_to(pins, roots) - left))
                self.same(self.answers_anew(leaves_with, lock, lot), rows[lot])
                some += bool(rows[lot])
            for one, other in itertools.combinations(lots, 2):
                both = rows[tuple(sorted({*one, *other}))]
                self.assertLessEqual({*rows[one], *rows[other]}, set(both))
                more += len(both) > len({*rows[one], *rows[other]})
        self.assertGreater(some, 100)
        self.assertGreater(more, 20)

    def test_lots_that_are_none(self):
        lock = Lock({"a": ALL, "b": ALL}, {"a": (V1, EMPTY), "c": (V1, EMPTY)})
        for value in any_values() + [("b", "a"), ("a", "a"), ["a"], ("c",), ("z",), "a", ("a", "b", "c"), ("a", None), (["a"],)]:
            if value != () or not isinstance(value, tuple):
                self.refuses(BadLot, leaves_with, lock, value)
        self.same([leaves_with(lock=lock, lot=()), leaves_with(lock, ("b",)), leaves_with(lock, ("a", "b"))], [(), (), ("a",)])
        self.refuses(NotLock, leaves_with, None, None)


class LostPins(Case):
    def test_lost_pins(self):
        seen = {"kit": 0, "version": 0, "manifest": 0, "none": 0}
        for rng, kits, roots, chosen in lock_cases(528, 80):
            lock = lock_of(Registry(kits), roots, chosen)
            for _ in range(4):
                later = {kit: {version: manifest if rng.random() < 0.8 else some_manifest(rng, list("abc"))
                               for version, manifest in kits[kit].items() if rng.random() < 0.8} for kit in kits}
                later = {**{kit: later[kit] for kit in later if later[kit]}, "y": {V1: EMPTY}}
                wanted = []
                for kit, (version, manifest) in lock.pins.items():
                    if kit not in later:
                        wanted.append(("kit", kit))
                    elif version not in later[kit]:
                        wanted.append(("version", kit))
                    elif strict(later[kit][version]) != strict(manifest):
                        wanted.append(("manifest", kit))
                if len(later) > 5:
                    continue
                found = self.answers_anew(lost_pins, Registry(later), lock)
                self.same(found, sorted(wanted))
                for word, _ in found or [("none", None)]:
                    seen[word] += 1
                if not found:
                    self.assertIn(chosen, installs(Registry(later), roots))
        self.assertGreater(min(seen.values()), 20, seen)

    def test_publishing_and_withdrawing(self):
        for rng, kits, roots, chosen in lock_cases(529, 60):
            registry = Registry(kits)
            lock = lock_of(registry, roots, chosen)
            kit = rng.choice(sorted(kits))
            if len(kits[kit]) < 4 and len(kits) < 4:
                later = registry.published(kit, (9, 9, 9), some_manifest(rng, list("abc")))
                self.same(lost_pins(later, lock), [])
                self.same(lock_of(later, roots, chosen), lock)
            for kit in kits:
                for version in kits[kit]:
                    if sum(map(len, kits.values())) > 1:
                        left = registry.withdrawn(kit, version)
                        word = "version" if kit in left.kits else "kit"
                        self.same(lost_pins(registry=left, lock=lock), [(word, kit)] if chosen.get(kit) == version else [])

    def test_called_otherwise(self):
        names = {"a": "p", "b": "q", "c": "r", "d": "s", "z": "zz"}
        for rng, kits, roots, chosen in lock_cases(530, 40):
            registry = Registry(kits)
            other = renamed(registry, {kit: names[kit] for kit in registry.named})
            lock = lock_of(other, {names[kit]: roots[kit] for kit in roots}, {names[kit]: chosen[kit] for kit in chosen})
            self.same(wanted_by(lock), {names[kit]: tuple(names[one] for one in row)
                                        for kit, row in wanted_by(lock_of(registry, roots, chosen)).items()})
            self.same(lost_pins(registry, lock), [("kit", kit) for kit in sorted(lock.chosen)])
            self.same(kits_dict(registry), kits)


if __name__ == "__main__":
    unittest.main()
