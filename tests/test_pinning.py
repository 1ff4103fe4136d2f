"""Promises [82] and [83]: pins that sound sets honour, holds and least enough lots, and the nearest sets."""

import itertools
import random
import unittest

from kitwright.clauses import given_clauses
from kitwright.errors import BadLot, BadNumber, BadPins, BadRoots, BadWeights, NoSet, NotRegistry
from kitwright.pinning import (
    far_paper, free_paper, freed_always, holds_of, is_enough, is_far_paper, is_free_paper, kept_always, least_frees,
    nearest_cost, nearest_sets)
from kitwright.quarrels import gifts, quarrels
from kitwright.ranges import Range
from kitwright.refuting import is_refutation
from kitwright.registries import Registry, renamed
from tests.samples import (
    ALL, APP, EMPTY, HIGH, LOW, V1, V2, V3, Case, any_values, kits_dict, plain_sound, plain_states, some_kits, some_roots,
    tense_kits)

NINE = (9, 9, 9)
TIED = {"a": {V1: ({"b": LOW}, {}, ()), V2: ({"b": HIGH}, {}, ())}, "b": {V1: EMPTY, V2: EMPTY}}
MILLION = 10 ** 6


def some_pinned(rng, kits):
    """Pins to states that are there, and at times to others."""
    found = {}
    for kit in rng.sample(sorted(kits), rng.randint(0 if rng.random() < 0.2 else min(2, len(kits)), len(kits))):
        found[kit] = NINE if rng.random() < 0.08 else rng.choice(plain_states(kits, kit) + sorted(kits[kit]))
    return found


def cases(seed, many):
    """Quadruples of a generator, kits, roots and pins."""
    rng = random.Random(seed)
    for at in range(many):
        kits = tense_kits(rng) if at % 3 == 0 else some_kits(rng, most_kits=4, most_versions=2, extra=())
        roots = {} if rng.random() < 0.4 else some_roots(rng, kits, 1)
        yield rng, kits, roots, some_pinned(rng, kits)


# The test's own look.

def plain_lots(pinned):
    """All lots of pinned kits, shorter first, then ascending."""
    return [lot for size in range(len(pinned) + 1) for lot in itertools.combinations(sorted(pinned), size)]


def honours_all(chosen, pinned, kits):
    """Whether a set honours the pins of some kits."""
    return all(chosen.get(kit, ()) == pinned[kit] for kit in kits)


def outside(pinned, lot):
    """The pinned kits outside a lot."""
    return [kit for kit in sorted(pinned) if kit not in lot]


def plain_enough(sound, pinned, lot):
    """Whether some sound set honours the pins outside a lot."""
    return any(honours_all(chosen, pinned, outside(pinned, lot)) for chosen in sound)


def plain_holds(sound, pinned):
    """All holds, by the words of the promise."""
    def can(lot):
        return any(honours_all(chosen, pinned, lot) for chosen in sound)
    return [lot for lot in plain_lots(pinned)
            if not can(lot) and all(can([other for other in lot if other != kit]) for kit in lot)]


def least(lots):
    """The lots that have no other one within."""
    return [lot for lot in lots if not any(set(other) < set(lot) for other in lots)]


def plain_cost(pinned, weights, chosen):
    """What a set costs."""
    return sum(weights[kit] for kit in pinned if chosen.get(kit, ()) != pinned[kit])


def pinned_clauses(kits, pinned, lot):
    """The pinned clauses of the kits outside a lot."""
    found = []
    for kit in outside(pinned, lot):
        states = plain_states(kits, kit)
        others = tuple(state for state in states if state != pinned[kit])
        found.append(((kit, others),) if pinned[kit] in states else ())
    return found


class Lots(Case):
    def test_holds_and_frees(self):
        seen = {"hold": 0, "long": 0, "free": 0, "none": 0, "never": 0}
        for rng, kits, roots, pinned in cases(531, 250):
            registry, sound = Registry(kits), plain_sound(kits, roots)
            holds = self.answers_anew(holds_of, registry, roots, pinned)
            frees = self.answers_anew(least_frees, registry, roots, pinned)
            enough = [lot for lot in plain_lots(pinned) if plain_enough(sound, pinned, lot)]
            self.same(holds, plain_holds(sound, pinned))
            self.same(frees, least(enough))
            for lot in plain_lots(pinned):
                self.assertIs(is_enough(registry, roots, pinned, lot), lot in enough)
                # A lot is enough exactly if it has a kit of each hold.
                self.assertEqual(lot in enough, all(set(lot) & set(hold) for hold in holds))
            meets = [lot for lot in plain_lots(pinned) if all(set(lot) & set(free) for free in frees)]
            self.same(holds, least(meets) if frees else [()])
            seen["hold"] += bool(holds)
            seen["long"] += any(len(hold) > 1 for hold in holds)
            seen["free"] += len(frees) > 1
            seen["none"] += not holds
            if not sound:
                seen["never"] += 1
                self.same([holds, frees], [[()], []])
        self.assertGreater(min(seen.values()), 12, seen)

    def test_by_hand(self):
        registry, roots = Registry(TIED), {"a": ALL}
        pinned = {"a": V1, "b": V2}
        self.same(holds_of(registry=registry, roots=roots, pinned=pinned), [("a", "b")])
        self.same(least_frees(registry=registry, roots=roots, pinned=pinned), [("a",), ("b",)])
        self.assertIs(is_enough(registry=registry, roots=roots, pinned=pinned, lot=("b",)), True)
        self.assertIs(is_enough(registry, roots, pinned, ()), False)
        self.same([holds_of(registry, {}, {}), least_frees(registry, {}, {})], [[], [()]])
        self.same([holds_of(registry, {"z": ALL}, {}), least_frees(registry, {"z": ALL}, {})], [[()], []])
        self.assertIs(is_enough(registry, {"z": ALL}, {"a": V1}, ("a",)), False)
        self.same(holds_of(registry, roots, {"a": ()}), [("a",)])
        self.same(holds_of(registry, {}, {"a": NINE, "b": ()}), [("a",)])
        self.same(least_frees(registry, {}, {"a": NINE, "b": ()}), [("a",)])

    def test_holds_are_quarrels(self):
        # A pin is a want of one version, or a bar of all: then holds are quarrels, and least enough lots gifts.
        quarrelled = 0
        for rng, kits, roots, pinned in cases(532, 120):
            registry = Registry(kits)
            demands = [("want", kit, Range([(state, state[:2] + (state[2] + 1,))])) if state else ("bar", kit, ALL)
                       for kit, state in sorted(pinned.items())]
            names = sorted(pinned)
            if not roots:
                self.same(holds_of(registry, {}, pinned), [tuple(names[at] for at in lot) for lot in quarrels(registry, demands)])
                self.same(least_frees(registry, {}, pinned), [tuple(names[at] for at in lot) for lot in gifts(registry, demands)])
                quarrelled += len(holds_of(registry, {}, pinned)) > 0
        self.assertGreater(quarrelled, 15)


class Papers(Case):
    def test_free_papers(self):
        seen = {"set": 0, "refuted": 0}
        for rng, kits, roots, pinned in cases(533, 120):
            registry, sound = Registry(kits), plain_sound(kits, roots)
            for lot in plain_lots(pinned):
                word, told = self.answers_anew(free_paper, registry, roots, pinned, lot)
                clauses = given_clauses(registry, roots) + pinned_clauses(kits, pinned, lot)
                self.assertEqual(word, "set" if plain_enough(sound, pinned, lot) else "refuted")
                seen[word] += 1
                if word == "set":
                    self.assertIn(told, sound)
                    self.assertTrue(honours_all(told, pinned, outside(pinned, lot)))
                else:
                    self.assertIs(is_refutation(registry, clauses, told), True)
                self.assertIs(is_free_paper(registry, roots, pinned, lot, (word, told)), True)
                self.otherwise(rng, registry, roots, pinned, lot, word, told)
                if word == "set":
                    for chosen in sound[:30]:
                        right = honours_all(chosen, pinned, outside(pinned, lot))
                        self.assertIs(is_free_paper(registry, roots, pinned, lot, ("set", chosen)), right)
        self.assertGreater(min(seen.values()), 100, seen)

    def otherwise(self, rng, registry, roots, pinned, lot, word, told):
        """Papers with one thing otherwise."""
        other = "refuted" if word == "set" else "set"
        for wrong in [(other, told), (word,), (word, told, told), [word, told], (word.upper(), told), told, (word, None),
                      (None, told), (word, [told])]:
            self.assertIs(is_free_paper(registry, roots, pinned, lot, wrong), False)
        if word == "set":
            for kit in registry.kits:
                self.assertIs(is_free_paper(registry, roots, pinned, lot, ("set", {**told, kit: (True, 0, 0)})), False)
                for state in [None, NINE, *registry.versions(kit)]:
                    chosen = {**told, kit: state}
                    right = chosen in plain_sound(kits_dict(registry), roots) and honours_all(
                        chosen, pinned, outside(pinned, lot))
                    self.assertIs(is_free_paper(registry, roots, pinned, lot, ("set", chosen)), right)
        else:
            clauses = given_clauses(registry, roots) + pinned_clauses(kits_dict(registry), pinned, lot)
            self.assertIs(is_free_paper(registry, roots, pinned, lot, (word, tuple(told))), True)
            self.assertIs(is_free_paper(registry, roots, pinned, lot, (word, [])), False)
            for place in range(len(told)):
                for row in [("given", len(clauses)), ("given", rng.randrange(len(clauses))), ("given", True), None,
                            ("joined", 0, 0, "a")]:
                    rows = told[:place] + [row] + told[place + 1:]
                    self.assertIs(is_free_paper(registry, roots, pinned, lot, (word, rows)), is_refutation(registry, clauses, rows))
                rows = told[:place] + told[place + 1:]
                self.assertIs(is_free_paper(registry, roots, pinned, lot, (word, rows)), is_refutation(registry, clauses, rows))

    def test_pins_to_what_is_not_there(self):
        registry = Registry(TIED)
        word, rows = free_paper(registry=registry, roots={}, pinned={"a": NINE, "b": V1}, lot=("b",))
        self.same([word, rows], ["refuted", [("given", len(given_clauses(registry, {})))]])
        self.assertIs(is_free_paper(registry=registry, roots={}, pinned={"a": NINE, "b": V1}, lot=("b",), value=(word, rows)), True)
        self.same(free_paper(registry, {}, {"a": NINE, "b": V1}, ("a",)), ("set", {"b": V1}))
        for value in any_values():
            for lot in [(), ("a",)]:
                self.assertIs(is_free_paper(registry, {}, {"a": NINE}, lot, value), False)
                self.assertIs(is_free_paper(registry, {}, {"a": NINE}, lot, ("refuted", value)), False)
                right = bool(lot) and isinstance(value, dict) and not value
                self.assertIs(is_free_paper(registry, {}, {"a": NINE}, lot, ("set", value)), right)


class Nearest(Case):
    def test_nearest(self):
        seen = {"none": 0, "kept": 0, "freed": 0, "several": 0}
        for rng, kits, roots, pinned in cases(534, 250):
            registry, sound = Registry(kits), plain_sound(kits, roots)
            weights = {kit: rng.choice([0, 1, 1, 2, 3, MILLION]) for kit in pinned}
            args = (registry, roots, pinned, weights)
            costs = [plain_cost(pinned, weights, chosen) for chosen in sound]
            self.same(nearest_cost(*args), min(costs, default=None))
            near = [chosen for chosen, cost in zip(sound, costs) if cost == min(costs)]
            self.same(self.answers_anew(nearest_sets, *args), near)
            if not sound:
                seen["none"] += 1
                self.refuses(NoSet, freed_always, *args)
                self.refuses(NoSet, kept_always, *args)
                self.same(least_frees(registry, roots, pinned), [])
                continue
            freed = tuple(kit for kit in sorted(pinned) if not any(honours_all(chosen, pinned, [kit]) for chosen in near))
            kept = tuple(kit for kit in sorted(pinned) if all(honours_all(chosen, pinned, [kit]) for chosen in near))
            self.same([freed_always(*args), kept_always(*args)], [freed, kept])
            frees = least_frees(registry, roots, pinned)
            self.same(nearest_cost(*args), min(sum(weights[kit] for kit in lot) for lot in frees))
            seen["kept"] += bool(kept)
            seen["freed"] += bool(freed)
            seen["several"] += len(near) > 1 and len(freed) + len(kept) < len(pinned)
        self.assertGreater(min(seen.values()), 10, seen)

    def test_by_hand(self):
        told = {"registry": Registry(TIED), "roots": {"a": ALL}, "pinned": {"a": V1, "b": V2}, "weights": {"a": 3, "b": 1}}
        self.same(nearest_cost(**told), 1)
        self.same(nearest_sets(**told), [{"a": V1, "b": V1}])
        self.same([freed_always(**told), kept_always(**told)], [("b",), ("a",)])
        paper = far_paper(**told, most=1)
        self.same(list(paper), [()])
        self.assertIs(is_far_paper(**told, most=1, value=paper), True)
        self.same(far_paper(**told, most=0), {})
        self.same(far_paper(**told, most=2), None)
        self.same(nearest_cost(Registry(TIED), {"a": ALL}, {}, {}), 0)
        self.same([freed_always(Registry(TIED), {}, {}, {}), kept_always(Registry(TIED), {}, {}, {})], [(), ()])
        self.same(nearest_cost(Registry(TIED), {"z": ALL}, {"a": V1}, {"a": MILLION}), None)
        self.same(nearest_cost(Registry(TIED), {"a": HIGH}, {"a": V1, "b": ()}, {"a": MILLION, "b": MILLION}), 2 * MILLION)


class FarPapers(Case):
    def test_far_papers(self):
        seen = {"none": 0, "empty": 0, "one": 0, "more": 0}
        for rng, kits, roots, pinned in cases(535, 200):
            registry, sound = Registry(kits), plain_sound(kits, roots)
            weights = {kit: rng.choice([0, 1, 1, 2, 5]) for kit in pinned}
            args, cost = (registry, roots, pinned, weights), nearest_cost(registry, roots, pinned, weights)
            for most in {0, 1, 2, 3, 6, 20, 10 ** 9, cost or 0, (cost or 0) + 1}:
                found = self.answers_anew(far_paper, *args, most)
                light = [lot for lot in plain_lots(pinned) if sum(weights[kit] for kit in lot) < most]
                if cost is not None and cost < most:
                    seen["none"] += 1
                    self.same(found, None)
                    self.assertIs(is_far_paper(*args, most, {}), False)
                    continue
                greatest = sorted(lot for lot in light if not any(set(lot) < set(other) for other in light))
                self.same(list(found), greatest)
                seen[["empty", "one", "more"][min(2, len(found))]] += 1
                for lot in found:
                    clauses = given_clauses(registry, roots) + pinned_clauses(kits, pinned, lot)
                    self.assertIs(is_refutation(registry, clauses, found[lot]), True)
                self.assertIs(is_far_paper(*args, most, found), True)
                self.assertIs(is_far_paper(*args, most, dict(reversed(found.items()))), True)
                self.otherwise(args, most, found, light)
        self.assertGreater(min(seen.values()), 30, seen)

    def otherwise(self, args, most, found, light):
        """Papers with one key or one row otherwise, and for other numbers."""
        for lot in found:
            less = {other: found[other] for other in found if other != lot}
            self.assertIs(is_far_paper(*args, most, less), False)
            for wrong in (None, [], found[lot][:-1], found[lot] + [("given", 999)], {}, [None], [("given", True)]):
                self.assertIs(is_far_paper(*args, most, {**found, lot: wrong}), False)
            for key in [lot + ("zz",), "a", None, 1, (lot,), lot + lot if lot else ("zz",), ("b", "a")]:
                self.assertIs(is_far_paper(*args, most, {**found, key: found[lot]}), False)
            # Keys that need not be there may be, with refutations of their own.
            for other in light[:4]:
                told = free_paper(*args[:3], other)
                self.assertIs(is_far_paper(*args, most, {**found, other: told[1]}), True)
                if other != lot:
                    self.assertIs(is_far_paper(*args, most, {**less, other: told[1]}), set(lot) <= set(other))
        if most > 0:
            self.assertIs(is_far_paper(*args, most - 1, found), True)
        if found:
            self.assertIs(is_far_paper(*args, most, {}), False)

    def test_any_value(self):
        registry, pinned, weights = Registry(TIED), {"a": V1, "b": V2}, {"a": 3, "b": 1}
        good = far_paper(registry, {"a": ALL}, pinned, weights, 1)
        for value in any_values():
            for most in (0, 1):
                right = most == 0 and isinstance(value, dict) and not value
                self.assertIs(is_far_paper(registry, {"a": ALL}, pinned, weights, most, value), right)
            self.assertIs(is_far_paper(registry, {"a": ALL}, pinned, weights, 1, {(): value}), False)
            if isinstance(value, (str, int)) or value is None:
                self.assertIs(is_far_paper(registry, {"a": ALL}, pinned, weights, 1, {**good, value: []}), False)


class Errors(Case):
    def test_order(self):
        registry = Registry(APP)
        self.refuses(NotRegistry, is_far_paper, None, None, None, None, None, None)
        self.refuses(BadRoots, is_far_paper, registry, None, None, None, None, None)
        self.refuses(BadPins, is_far_paper, registry, {}, None, None, None, None)
        self.refuses(BadWeights, is_far_paper, registry, {}, {"app": V1}, None, None, None)
        self.refuses(BadNumber, is_far_paper, registry, {}, {"app": V1}, {"app": 1}, None, None)
        self.refuses(BadPins, free_paper, registry, {}, None, None)
        self.refuses(BadLot, free_paper, registry, {}, {"app": V1}, None)
        self.refuses(BadWeights, freed_always, registry, {"zz": ALL}, {}, None)
        self.refuses(NoSet, freed_always, registry, {"zz": ALL}, {}, {})

    def test_pins_that_are_none(self):
        registry = Registry(APP)
        for value in any_values() + [{"zz": V1}, {"app": None}, {"app": [1, 0, 0]}, {"app": (True, 0, 0)}, {"app": (1, 0)}, {1: V1},
                                     {"app": (-1, 0, 0)}, [("app", V1)], {"app": V1, "zz": ()}, {"app": []}, {"app": {}}]:
            if value != {} or not isinstance(value, dict):
                for call, more in [(is_enough, [()]), (holds_of, []), (least_frees, []), (free_paper, [()]),
                                   (is_free_paper, [(), None]), (nearest_cost, [{}]), (nearest_sets, [{}]), (far_paper, [{}, 0]),
                                   (is_far_paper, [{}, 0, None]), (freed_always, [{}]), (kept_always, [{}])]:
                    self.refuses(BadPins, call, registry, {}, value, *more)
        for state in [(), V1, V2, V3, NINE, (0, 0, 0)]:
            self.same(nearest_cost(registry, {}, {"app": state}, {"app": 0}), 0)

    def test_lots_that_are_none(self):
        registry, pinned = Registry({"a": {V1: EMPTY}, "b": {V1: EMPTY}, "c": {V1: EMPTY}}), {"a": V1, "b": V2}
        for value in any_values() + [("b", "a"), ("a", "a"), ["a"], ("c",), ("a", "c"), ("a", None), (("a",),), "ab"]:
            if value != () or not isinstance(value, tuple):
                self.refuses(BadLot, is_enough, registry, {}, pinned, value)
                self.refuses(BadLot, free_paper, registry, {}, pinned, value)
                self.refuses(BadLot, is_free_paper, registry, {}, pinned, value, None)

    def test_weights_that_are_none(self):
        registry, pinned = Registry(APP), {"app": V1, "lib": ()}
        good = {"app": 0, "lib": MILLION}
        self.same(nearest_cost(registry, {"app": HIGH}, pinned, good), MILLION)
        for value in any_values() + [{"app": 1}, {**good, "zz": 1}, {**good, "app": -1}, {**good, "app": MILLION + 1}, list(good),
                                     {**good, "app": True}, {**good, "app": None}, {**good, "lib": 1.0}, {"app": 1, "zz": 1}]:
            for call, more in [(nearest_cost, []), (nearest_sets, []), (far_paper, [0]), (is_far_paper, [0, None]),
                               (freed_always, []), (kept_always, [])]:
                self.refuses(BadWeights, call, registry, {}, pinned, value, *more)

    def test_numbers_that_are_none(self):
        registry = Registry(APP)
        for value in any_values() + [-1, 1.5, True]:
            if not (type(value) is int and value >= 0):
                self.refuses(BadNumber, far_paper, registry, {}, {}, {}, value)
                self.refuses(BadNumber, is_far_paper, registry, {}, {}, {}, value, {})
        self.same(far_paper(registry, {"zz": ALL}, {}, {}, 10 ** 99), far_paper(registry, {"zz": ALL}, {}, {}, 1))


class AcrossRegistries(Case):
    def test_called_otherwise_and_grown(self):
        names = {"a": "p", "b": "q", "c": "r", "d": "s", "z": "zz"}
        for rng, kits, roots, pinned in cases(536, 60):
            registry = Registry(kits)
            other = renamed(registry, {kit: names[kit] for kit in registry.named})
            told = [{names[kit]: value[kit] for kit in value} for value in (roots, pinned)]
            for call in (holds_of, least_frees):
                self.same(call(other, *told), [tuple(names[kit] for kit in lot) for lot in call(registry, roots, pinned)])
            kit = rng.choice(sorted(kits))
            if len(kits[kit]) < 3:
                # What is published makes no lot less than enough.
                later = registry.published(kit, NINE, EMPTY)
                for lot in plain_lots(pinned):
                    if is_enough(registry, roots, pinned, lot):
                        self.assertIs(is_enough(later, roots, pinned, lot), True)
                self.same(holds_of(later.withdrawn(kit, NINE), roots, pinned), holds_of(registry, roots, pinned))


if __name__ == "__main__":
    unittest.main()
