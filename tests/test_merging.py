"""Promises [84] and [85]: ranges, roots, pins and locks that two people changed, merged over their base."""

import random
import unittest

from kitwright.best import is_better
from kitwright.errors import BadPins, BadRanked, BadRoots, NoSet, NotLock, NotRange, NotRegistry, TooMany
from kitwright.locks import Lock, lock_faults, lock_of, lost_pins
from kitwright.merging import merge_locks, merged_pins, merged_range, merged_roots
from kitwright.pinning import nearest_cost
from kitwright.ranges import Range
from kitwright.registries import Registry, renamed
from kitwright.sets import installs
from tests.samples import (
    ALL, APP, EMPTY, HIGH, LOW, NONE, V1, V2, V3, Case, any_values, has, plain_reached, plain_sound, some_kits, some_manifest,
    some_range, some_ranges, tense_kits)

NINE = (9, 9, 9)
# Versions at, ahead of and behind all ends of the ranges that are drawn.
POINTS = [(a, b, c) for a in range(5) for b in (0, 1, 2, 3) for c in (0, 1, 2)]


def near(rng, ranged):
    """A range, the given one at times."""
    return ranged if rng.random() < 0.3 else some_range(rng)


def near_roots(rng, roots):
    """Roots, some of them as given."""
    found = {kit: roots[kit] for kit in roots if rng.random() < 0.7}
    return dict(list({**found, **some_ranges(rng, list("abcd"), 2)}.items())[:4])


def near_states(rng, states):
    """States, some of them as given."""
    found = {kit: states[kit] for kit in states if rng.random() < 0.7}
    return {**found, **{kit: rng.choice([(), V1, V2, NINE]) for kit in rng.sample("abcdz", rng.randint(0, 2))}}


def near_lock(rng, kits, lock):
    """A lock: of an install, or the given one with something otherwise."""
    registry = Registry(kits)
    if rng.random() < 0.5:
        roots = {kit: rng.choice([ALL, LOW, HIGH]) for kit in rng.sample(sorted(kits), rng.randint(0, min(2, len(kits))))}
        found = installs(registry, roots)
        if found:
            return lock_of(registry, roots, rng.choice(found))
    roots, pins = lock.roots, lock.pins
    for kit in rng.sample("abcz", 2):
        word = rng.choice(["pin", "root", "manifest", "out"])
        if word == "pin":
            pins[kit] = (rng.choice([V1, V2, V3]), EMPTY)
        elif word == "root":
            roots[kit] = rng.choice([ALL, LOW, HIGH])
        elif word == "manifest" and kit in pins:
            pins[kit] = (pins[kit][0], some_manifest(rng, list("abc")))
        else:
            pins.pop(kit, None)
    return Lock(dict(sorted(roots.items())[:4]), pins)


def lock_cases(seed, many):
    """For each a generator, kits, three locks, and a list of the kits."""
    rng = random.Random(seed)
    for at in range(many):
        kits = tense_kits(rng) if at % 3 == 0 else some_kits(rng, most_kits=3, most_versions=2, extra=("z",))
        base = near_lock(rng, kits, Lock({}, {}))
        ranked = sorted(kits)
        rng.shuffle(ranked)
        yield rng, kits, [base, near_lock(rng, kits, base), near_lock(rng, kits, base)], ranked


# The test's own look.

def plain_merged(base, left, right, version):
    """Whether the merged range has a version."""
    in_base, in_left, in_right = has(base, version), has(left, version), has(right, version)
    return in_left if in_left == in_right else not in_base


def plain_roots(base, left, right):
    """The roots and the words, by the words of the promise."""
    roots, words = {}, {}
    for kit in sorted({*base, *left, *right}):
        old, one, other = base.get(kit), left.get(kit), right.get(kit)
        if one == old or other == old:
            found = other if one == old else one
        elif one is None and other is None:
            found = None
        elif one is None or other is None:
            words[kit] = "dropped"
            found = one if other is None else other
        else:
            found = merged_range(ALL if old is None else old, one, other)
            if found == NONE and one != NONE and other != NONE:
                words[kit] = "empty"
        if found is not None:
            roots[kit] = found
    return roots, words


def plain_pins(base, left, right):
    """The states and the clashes, by the words of the promise."""
    pinned, clashes = {}, []
    for kit in sorted({*base, *left, *right}):
        old, one, other = (told.get(kit, ()) for told in (base, left, right))
        changed = [state for state in (one, other) if state != old]
        if len(changed) == 2 and one != other:
            clashes.append(kit)
        else:
            pinned[kit] = changed[0] if changed else old
    return pinned, tuple(clashes)


class Ranges(Case):
    def test_merged_range(self):
        changed = 0
        rng = random.Random(541)
        for _ in range(300):
            base = some_range(rng)
            left, right = near(rng, base), near(rng, base)
            found = self.answers_anew(merged_range, base, left, right)
            for version in POINTS:
                self.assertIs(version in found, plain_merged(base, left, right, version))
                self.assertEqual((version in found) != (version in base),
                                 (version in left) != (version in base) or (version in right) != (version in base))
            changed += found not in (base, left, right)
            self.same(merged_range(base, right, left), found)
            self.same(merged_range(base, left, base), left)
            self.same(merged_range(base, left, left), left)
            third = near(rng, base)
            self.same(merged_range(base, found, third), merged_range(base, left, merged_range(base, right, third)))
            twice = any(has(left, version) != has(base, version) and has(right, version) != has(base, version) for version in POINTS)
            self.assertEqual(merged_range(left, base, found) == right, not twice)
        self.assertGreater(changed, 50)

    def test_by_hand(self):
        def up(low, high):
            return Range([((low, 0, 0), (high, 0, 0))])
        self.same(merged_range(base=up(1, 5), left=up(1, 3), right=up(2, 6)), Range([((2, 0, 0), (3, 0, 0)), ((5, 0, 0), (6, 0, 0))]))
        for wrong in [(3, 5, 6), ({}, {}, {}), (True, False, True), (ALL, 5, 6), (3, ALL, 6), (3, 5, ALL)]:
            self.refuses(NotRange, merged_range, *wrong)
        for value in any_values():
            if not isinstance(value, Range):
                for wrong in [(value, ALL, ALL), (ALL, value, ALL), (ALL, ALL, value)]:
                    self.refuses(NotRange, merged_range, *wrong)


class Roots(Case):
    def test_merged_roots(self):
        seen = {"dropped": 0, "empty": 0, "gone": 0, "many": 0, "merged": 0}
        rng = random.Random(542)
        for _ in range(600):
            base = some_ranges(rng, list("abcd"), 3)
            left, right = near_roots(rng, base), near_roots(rng, base)
            if rng.random() < 0.3:
                right = {kit: rng.choice([right[kit], LOW, HIGH]) for kit in right}
                left = {kit: rng.choice([left[kit], LOW, HIGH]) for kit in left}
            wanted = plain_roots(base, left, right)
            if len(wanted[0]) > 4:
                self.refuses(TooMany, merged_roots, base, left, right, most=4)
                continue
            found = self.answers_anew(merged_roots, base, left, right)
            self.same(found, wanted)
            self.same(merged_roots(base=base, left=right, right=left), wanted)
            for word in wanted[1].values():
                seen[word] += 1
            seen["gone"] += any(kit not in wanted[0] for kit in base)
            seen["merged"] += any(ranged not in [told.get(kit) for told in (base, left, right)] for kit, ranged in wanted[0].items())
            seen["many"] += len(wanted[0]) == 4
        self.assertGreater(min(seen.values()), 20, seen)

    def test_each_case(self):
        mid = Range([(V1, V3)])
        for base, left, right, wanted, word in [
                (None, None, LOW, LOW, None), (None, LOW, None, LOW, None), (LOW, LOW, LOW, LOW, None), (LOW, LOW, None, None, None),
                (LOW, None, LOW, None, None), (LOW, None, None, None, None), (LOW, HIGH, LOW, HIGH, None),
                (LOW, LOW, HIGH, HIGH, None), (LOW, HIGH, HIGH, HIGH, None), (None, LOW, LOW, LOW, None),
                (None, LOW, mid, Range([(V1, V2)]), None), (None, LOW, HIGH, NONE, "empty"), (None, LOW, NONE, NONE, None),
                (LOW, None, HIGH, HIGH, "dropped"), (LOW, HIGH, None, HIGH, "dropped"), (ALL, LOW, HIGH, NONE, "empty"),
                (ALL, LOW, mid, Range([(V1, V2)]), None), (LOW, NONE, LOW, NONE, None), (ALL, NONE, LOW, NONE, None),
                (LOW, None, NONE, NONE, "dropped"), (NONE, LOW, HIGH, ALL, None), (LOW, NONE, HIGH, HIGH, None)]:
            told = [{} if ranged is None else {"a": ranged} for ranged in (base, left, right)]
            self.same(merged_roots(*told), ({} if wanted is None else {"a": wanted}, {"a": word} if word else {}), (base, left, right))

    def test_refused(self):
        for value in any_values() + [dict.fromkeys("abcde", ALL), {"A": ALL}]:
            if not (isinstance(value, dict) and all(isinstance(one, Range) and kit == "a" for kit, one in value.items())):
                for wrong in [(value, {}, {}), ({}, value, {}), ({}, {}, value)]:
                    self.refuses(BadRoots, merged_roots, *wrong)
        self.refuses(TooMany, merged_roots, {}, dict.fromkeys("abc", ALL), dict.fromkeys("cde", ALL), most=4)
        self.same(len(merged_roots({"a": LOW}, dict.fromkeys("abc", LOW), dict.fromkeys("cde", ALL))[0]), 4)


class Pins(Case):
    def test_merged_pins(self):
        seen = {"clash": 0, "alike": 0, "gone": 0}
        rng = random.Random(543)
        for _ in range(400):
            base = near_states(rng, {})
            left, right = near_states(rng, base), near_states(rng, base)
            wanted = plain_pins(base, left, right)
            self.same(self.answers_anew(merged_pins, base, left, right), wanted)
            self.same(merged_pins(base=base, left=right, right=left), wanted)
            seen["clash"] += bool(wanted[1])
            seen["alike"] += any(left.get(kit) == right.get(kit) != base.get(kit) for kit in wanted[0])
            seen["gone"] += () in wanted[0].values()
        self.assertGreater(min(seen.values()), 30, seen)

    def test_by_hand(self):
        self.same(merged_pins({"a": V1, "b": V1, "c": V1}, {"a": V2, "b": V2, "d": V1}, {"a": V2, "b": V3, "c": V1, "e": ()}),
                  ({"a": V2, "c": (), "d": V1, "e": ()}, ("b",)))
        self.same(merged_pins({"a": V1}, {}, {"a": V2}), ({}, ("a",)))
        self.same(merged_pins({"a": V1}, {}, {}), ({"a": ()}, ()))
        self.same(merged_pins({}, {}, {}), ({}, ()))

    def test_refused(self):
        for value in any_values() + [{"a": None}, {"A": V1}, {"a": (True, 0, 0)}, {"a": []}, [("a", V1)], {1: V1}, {"a": (1, 0)}]:
            if not (isinstance(value, dict) and (not value or repr(value) == "{'zz': (1, 0, 0)}")):
                for wrong in [(value, {}, {}), ({}, value, {}), ({}, {}, value)]:
                    self.refuses(BadPins, merged_pins, *wrong)


class Locks(Case):
    def test_merge_locks(self):
        seen = {"given": 0, "none": 0, "clash": 0, "word": 0, "trimmed": 0, "foreign": 0}
        for rng, kits, locks, ranked in lock_cases(544, 500):
            registry = Registry(kits)
            roots, words = plain_roots(*[lock.roots for lock in locks])
            if len(roots) > 4:
                self.refuses(TooMany, merge_locks, registry, *locks, ranked, most=4)
                continue
            states, clashes = plain_pins(*[lock.chosen for lock in locks])
            pinned = {kit: states.get(kit, ()) for kit in sorted(kits) if kit not in clashes}
            sound = plain_sound(kits, roots)
            if not sound:
                seen["none"] += 1
                self.refuses(NoSet, merge_locks, registry, *locks, ranked)
                continue
            costs = [sum(chosen.get(kit, ()) != pinned[kit] for kit in pinned) for chosen in sound]
            near_ones = [chosen for chosen, cost in zip(sound, costs) if cost == min(costs)]
            best = next(one for one in near_ones if not any(is_better(registry, ranked, other, one) for other in near_ones))
            kept = {kit: best[kit] for kit in plain_reached(kits, roots, best)}
            given = tuple(kit for kit in pinned if best.get(kit, ()) != pinned[kit])
            lock = Lock(roots, {kit: (kept[kit], kits[kit][kept[kit]]) for kit in kept})
            found = self.answers_anew(merge_locks, registry, *locks, ranked)
            self.same(found, (lock, words, clashes, given))
            self.same(merge_locks(registry=registry, base=locks[0], left=locks[2], right=locks[1], ranked=tuple(ranked)), found)
            self.same([lock_faults(found[0]), lost_pins(registry, found[0])], [[], []])
            self.same(nearest_cost(registry, roots, pinned, dict.fromkeys(pinned, 1)), len(given))
            seen["given"] += bool(given)
            seen["clash"] += bool(clashes)
            seen["word"] += bool(words)
            seen["trimmed"] += len(kept) < len(best)
            seen["foreign"] += any(kit not in kits for kit in states)
        self.assertGreater(min(seen.values()), 10, seen)

    def test_one_side_and_repair(self):
        seen = {"stays": 0, "repaired": 0, "none": 0}
        for rng, kits, locks, ranked in lock_cases(545, 200):
            registry = Registry(kits)
            for lock in locks:
                good = not lock_faults(lock) and not lost_pins(registry, lock)
                if good:
                    for other in locks:
                        self.same(merge_locks(registry, other, other, lock, ranked), (lock, {}, (), ()))
                        self.same(merge_locks(registry, other, lock, other, ranked), (lock, {}, (), ()))
                if not plain_sound(kits, lock.roots):
                    seen["none"] += 1
                    self.refuses(NoSet, merge_locks, registry, lock, lock, lock, ranked)
                    continue
                found = merge_locks(registry, lock, lock, lock, ranked)
                self.assertEqual(found[0] == lock, good)
                self.same(lock_faults(found[0]), [])
                self.same(merge_locks(registry, found[0], found[0], found[0], ranked), (found[0], {}, (), ()))
                seen["stays" if good else "repaired"] += 1
        self.assertGreater(min(seen.values()), 30, seen)

    def test_a_lock_of_which_a_manifest_went_on(self):
        registry, later = Registry(APP), Registry({**APP, "lib": {V1: ({}, {}, ("app",)), V2: EMPTY}})
        lock = lock_of(registry, {"app": LOW}, {"app": V1, "lib": V1})
        found = merge_locks(later, lock, lock, lock, ["app", "lib"])
        self.same(found, (lock_of(later, {"app": LOW}, {"app": V1, "lib": V1}), {}, (), ()))
        self.assertFalse(found[0] == lock)

    def test_by_hand(self):
        free = {"a": {V1: EMPTY, V2: EMPTY}, "b": {V1: EMPTY, V2: EMPTY}}
        registry = Registry(free)

        def lock(roots, **chosen):
            return Lock(dict.fromkeys(roots, ALL), {kit: (version, EMPTY) for kit, version in chosen.items()})
        # Both changed a: no pin of it, so the later version comes, as a is a root.
        found = merge_locks(registry, lock("a", a=NINE), lock("a", a=V1), lock("a", a=V2), ["a", "b"])
        self.same(found, (lock("a", a=V2), {}, ("a",), ()))
        # A kit that the registry has not clashes, and is pinned, for nothing.
        found = merge_locks(registry, lock(""), lock("a", a=V1, z=V1), lock("", z=V2), ["b", "a"])
        self.same(found, (lock("a", a=V1), {}, ("z",), ()))
        # b is pinned and stays in the set until it is trimmed: nothing is given up.
        found = merge_locks(registry, lock(""), lock("a", a=V1, b=V1), lock(""), ["b", "a"])
        self.same(found, (lock("a", a=V1), {}, (), ()))
        # A root drops out on the left, while its range is another one on the right.
        left, right = Lock({}, {}), Lock({"a": HIGH}, {"a": (V2, EMPTY)})
        self.same(merge_locks(registry, lock("a", a=V1), left, right, ["a", "b"]), (right, {"a": "dropped"}, ("a",), ()))
        low, high = Lock({"a": LOW}, {"a": (V1, EMPTY)}), Lock({"a": HIGH}, {"a": (V2, EMPTY)})
        self.refuses(NoSet, merge_locks, registry, lock("a", a=V1), low, high, ["a", "b"])

    def test_refused(self):
        registry, lock = Registry(APP), Lock({}, {})
        for value in any_values():
            if not isinstance(value, Lock):
                for wrong in [(value, lock, lock), (lock, value, lock), (lock, lock, value)]:
                    self.refuses(NotLock, merge_locks, registry, *wrong, ["app", "lib"])
            if not isinstance(value, Registry):
                self.refuses(NotRegistry, merge_locks, value, None, None, None, None)
            self.refuses(BadRanked, merge_locks, registry, lock, lock, lock, value)
        many = [Lock({}, {}), Lock(dict.fromkeys("abc", ALL), {}), Lock(dict.fromkeys("cde", ALL), {})]
        self.refuses(BadRanked, merge_locks, registry, *many, ["app"])
        self.refuses(TooMany, merge_locks, registry, *many, ["app", "lib"], most=4)

    def test_called_otherwise(self):
        names = {"a": "p", "b": "q", "c": "r", "d": "s", "z": "zz"}

        def told(lock):
            pins = {}
            for kit, (version, manifest) in lock.pins.items():
                parts = [{names[one]: ranged for one, ranged in part.items()} for part in manifest[:2]]
                pins[names[kit]] = (version, (*parts, tuple(sorted(names[one] for one in manifest[2]))))
            return Lock({names[kit]: ranged for kit, ranged in lock.roots.items()}, pins)
        for rng, kits, locks, ranked in lock_cases(546, 60):
            registry = Registry(kits)
            other = renamed(registry, {kit: names[kit] for kit in registry.named})
            roots, _ = plain_roots(*[lock.roots for lock in locks])
            if len(roots) <= 4 and plain_sound(kits, roots):
                lock, words, clashes, given = merge_locks(registry, *locks, ranked)
                found = merge_locks(other, *[told(one) for one in locks], [names[kit] for kit in ranked])
                self.same(found, (told(lock), {names[kit]: word for kit, word in words.items()},
                                  tuple(names[kit] for kit in clashes), tuple(names[kit] for kit in given)))


if __name__ == "__main__":
    unittest.main()
