"""Promises [91] and [92]: suspects, plans of tries and floors, and what one more trial would tell."""

import random
import unittest

from kitwright.errors import BadRoots, BadSet, BadTrials, BadWorked, NoTheory, NotRegistry, TooMany
from kitwright.registries import Registry
from kitwright.toldback import fails_by, is_fitting, open_culprits, sure_culprits, verdict
from kitwright.trying import (
    floor_for, is_floor, is_plan_for, plan_for, suspects, tries, would_tell, worth_trying)
from tests.samples import ALL, EMPTY, HIGH, LOW, V1, V2, Case, any_values, plain_sets, plain_sound
from tests.test_toldback import NO_CULPRITS, TRUE
from tests.trialdraws import A2, A2B1, HAND, HAND_TRIALS, Look, contrary_cases, lies_in, plain_culprits, trial_cases

FIVE = {kit: {V1: EMPTY} for kit in "abcde"}
WHOLE = dict.fromkeys("abcde", V1)


def plan_cases(seed, many):
    """Quintuples of a generator, a look, roots, the suspects and the sound sets."""
    rng = random.Random(seed)
    while many > 0:
        for _, look, roots in trial_cases(rng.randint(0, 10 ** 9), 1, most=3):
            if rng.random() < 0.5:
                # One trial of a large set that failed, so that there are suspects of all kinds.
                sets = [chosen for chosen in plain_sets(look.kits) if len(chosen) == len(look.kits)]
                look = Look(look.kits, look.trials + [(rng.choice(sets), False)])
                if not look.fitting:
                    continue
            many -= 1
            found = [culprit for at, culprit in enumerate(look.culprits) if 1 << at in look.fitting]
            yield rng, look, roots, found, plain_sound(look.kits, roots)


# The test's own look.

def split(names, chosen):
    """Those of some suspects that are not in a set, and those that are."""
    within = tuple(culprit for culprit in names if lies_in(culprit, chosen))
    return tuple(culprit for culprit in names if culprit not in within), within


def parting(names, sound):
    """The sound sets that part suspects."""
    return [chosen for chosen in sound if all(split(names, chosen))]


def plain_depth(names, sound, known):
    """The least depth of a plan, by a trying of all sets."""
    if names not in known:
        parts = {split(names, chosen) for chosen in parting(names, sound)}
        known[names] = min([1 + max(plain_depth(part, sound, known) for part in pair) for pair in parts], default=0)
    return known[names]


def plain_is_plan(names, sound, plan):
    """Whether a value of the right kinds is a plan."""
    if plan[0] == "these":
        return plan == ("these", names) and not parting(names, sound)
    _, chosen, works, fails = plan
    if chosen not in parting(names, sound):
        return False
    return plain_is_plan(split(names, chosen)[0], sound, works) and plain_is_plan(split(names, chosen)[1], sound, fails)


def depth_of(plan):
    """The depth of a plan."""
    return 0 if plan[0] == "these" else 1 + max(depth_of(plan[2]), depth_of(plan[3]))


def any_plan(rng, names, sound):
    """A plan of any depth."""
    sets = parting(names, sound)
    if not sets:
        return "these", names
    chosen = rng.choice(sets)
    works, fails = split(names, chosen)
    return "try", dict(chosen), any_plan(rng, works, sound), any_plan(rng, fails, sound)


def near_plans(rng, plan, sound):
    """Plans with one thing otherwise, at any depth."""
    if plan[0] == "these":
        return [("these", plan[1][1:]), ("these", plan[1] + plan[1][:1]), ("these", plan[1][::-1]), ("these", A2), plan + (1,),
                ("try", {}, plan, plan), ("these", list(plan[1])), list(plan), ("these",), ("those", plan[1])]
    _, chosen, works, fails = plan
    found = [("try", dict(other), works, fails) for other in rng.sample(sound, min(4, len(sound)))]
    found += [("try", {**chosen, kit: version}, works, fails) for kit in "ab" for version in (V1, V2)]
    # A set that parts nothing: all suspects are on one side of it, and none on the other one.
    found += [("try", dict(other), *pair) for other in sound[:3] for pair in [(plan, ("these", ())), (("these", ()), plan)]]
    found += [("try", chosen, fails, works), works, fails, ("these", (A2,)), ("try", chosen, works), list(plan),
              ("try", list(chosen.items()), works, fails), ("tries", chosen, works, fails), plan + (1,), ("try", None, works, fails)]
    found += [("try", chosen, other, fails) for other in near_plans(rng, works, sound)[:6]]
    return found + [("try", chosen, works, other) for other in near_plans(rng, fails, sound)[:6]]


def is_right_plan(look, sound, names, plan):
    """Whether any value is a plan, whatever its kinds."""
    if not isinstance(plan, tuple) or len(plan) not in (2, 4) or plan[0] != {2: "these", 4: "try"}[len(plan)]:
        return False
    if len(plan) == 2:
        return isinstance(plan[1], tuple) and plain_is_plan(names, sound, plan)
    if not isinstance(plan[1], dict) or plan[1] not in parting(names, sound):
        return False
    return all(is_right_plan(look, sound, part, plan[2 + at]) for at, part in enumerate(split(names, plan[1])))


def plain_is_floor(names, sound, floor):
    """Whether a dict from ascending tuples of suspects to numbers from 1 is a floor."""
    for key, number in floor.items():
        sets = parting(key, sound)
        if not sets:
            return False
        if number > 1 and any(max(floor.get(part, 0) for part in split(key, chosen)) < number - 1 for chosen in sets):
            return False
    return True


class Suspects(Case):
    def test_suspects(self):
        seen = {"none": 0, "some": 0}
        for rng, look, _, found, _ in plan_cases(581, 120):
            registry = Registry(look.kits)
            self.same(self.answers_anew(suspects, registry, look.trials), found)
            for culprit in look.culprits:
                self.assertIs(is_fitting(registry, look.trials, (culprit,)), culprit in found)
            seen["some" if found else "none"] += 1
        self.assertGreater(min(seen.values()), 4, seen)
        self.same(suspects(registry=Registry(HAND), trials=HAND_TRIALS), [A2, A2B1])
        self.same(suspects(Registry(HAND), []), plain_culprits(HAND))
        self.same(suspects(Registry(HAND), [({"a": V1}, False), ({"b": V1}, False)]), [])


class Plans(Case):
    def test_plans(self):
        seen = {0: 0, 1: 0, 2: 0, 3: 0, None: 0}
        for rng, look, roots, found, sound in plan_cases(582, 150):
            registry, names = Registry(look.kits), tuple(found)
            args = (registry, roots, look.trials)
            if len(names) > 12:
                continue
            plan = self.answers_anew(plan_for, *args)
            if not names:
                seen[None] += 1
                self.same([plan, tries(*args), floor_for(*args)], [None, None, {}])
                for value in [("these", ()), None, plan, ("these", (A2,))]:
                    self.assertIs(is_plan_for(*args, value), False)
                continue
            least = plain_depth(names, sound, {})
            self.same(tries(*args), least)
            self.same(depth_of(plan), least)
            self.assertTrue(plain_is_plan(names, sound, plan))
            seen[min(least, 3)] += 1
            for value in [plan, any_plan(rng, names, sound), any_plan(rng, names, sound)]:
                self.assertIs(is_plan_for(*args, value), True)
                for wrong in near_plans(rng, value, sound):
                    self.assertIs(is_plan_for(*args, wrong), is_right_plan(look, sound, names, wrong), wrong)
        self.assertGreater(min(seen.values()), 4, seen)

    def test_plans_carried_through(self):
        # Whatever suspect it is, the tries lead to just those that no sound set parts from it.
        many = 0
        for rng, look, roots, found, sound in plan_cases(583, 60):
            if not 1 <= len(found) <= 12:
                continue
            registry, least = Registry(look.kits), tries(Registry(look.kits), roots, look.trials)
            for hidden in found:
                plan, trials = plan_for(registry, roots, look.trials), list(look.trials)
                while plan[0] == "try" and len(trials) < 12:
                    worked = not fails_by(registry, (hidden,), plan[1])
                    trials.append((plan[1], worked))
                    plan = plan[2 if worked else 3]
                    many += 1
                self.assertLessEqual(len(trials) - len(look.trials), least)
                self.assertEqual(plan[0], "these")
                self.assertIn(hidden, plan[1])
                self.same(tuple(suspects(registry, trials)), plan[1])
                self.same(tries(registry, roots, trials), 0)
        self.assertGreater(many, 150)

    def test_limit(self):
        registry = Registry(FIVE)
        twelve = [({"a": V1, "b": V1}, True), (WHOLE, False)]
        thirteen = [({"a": V1}, True), ({"b": V1}, True), (WHOLE, False)]
        self.same([len(suspects(registry, twelve)), len(suspects(registry, thirteen))], [12, 13])
        plan = plan_for(registry, {}, twelve)
        self.assertIs(is_plan_for(registry, {}, twelve, plan), True)
        self.same(tries(registry, {}, twelve), depth_of(plan))
        floor = floor_for(registry, {}, twelve)
        self.same(floor[tuple(suspects(registry, twelve))], depth_of(plan))
        self.assertIs(is_floor(registry, {}, twelve, floor), True)
        for call, more in [(plan_for, []), (is_plan_for, [None]), (tries, []), (floor_for, [])]:
            self.refuses(TooMany, call, registry, {}, thirteen, *more, most=12)
            self.refuses(NoTheory, call, registry, {}, thirteen + [({}, False)], *more, at=3)
        # A floor can be judged for any number of suspects.
        names = tuple(suspects(registry, thirteen))
        self.assertIs(is_floor(registry, {}, thirteen, {names: 1}), True)
        self.assertIs(is_floor(registry, {}, thirteen, {names: 2}), False)
        self.assertIs(is_floor(registry, {}, thirteen, {names[:1]: 1}), False)

    def test_by_hand(self):
        told = {"registry": Registry(HAND), "roots": {}, "trials": HAND_TRIALS}
        self.same(tries(**told), 1)
        plan = plan_for(**told)
        self.assertIs(is_plan_for(**told, value=plan), True)
        one, both = ("these", (A2B1,)), ("these", (A2,))
        self.assertIs(is_plan_for(**told, value=("try", {"a": V2}, one, both)), True)
        self.assertIs(is_plan_for(**told, value=("try", {"a": V2, "b": V2}, one, both)), True)
        self.assertIs(is_plan_for(**told, value=("try", {"a": V2}, both, one)), False)
        self.assertIs(is_plan_for(**told, value=("try", {"a": V2, "b": V1}, one, both)), False)
        self.assertIs(is_plan_for(**told, value=("try", {"a": TRUE}, one, both)), False)
        self.assertIs(is_plan_for(**told, value=("these", (A2, A2B1))), False)
        self.assertIs(is_plan_for(Registry(HAND), {"b": LOW}, HAND_TRIALS, ("these", (A2, A2B1))), True)
        self.same(plan_for(Registry(HAND), {"b": LOW}, HAND_TRIALS), ("these", (A2, A2B1)))
        self.assertIs(is_plan_for(Registry(HAND), {"b": LOW}, HAND_TRIALS, ("these", (A2, (("a", (2, 0, 0)), ("b", TRUE))))), False)
        self.assertIs(is_plan_for(Registry(HAND), {"b": LOW}, HAND_TRIALS, ("try", {"a": V2}, one, both)), False)
        for pair in [(plan, ("these", ())), (("these", ()), plan)]:
            for chosen in ({}, {"a": V2, "b": V1}):
                self.assertIs(is_plan_for(**told, value=("try", chosen, *pair)), False)
        self.same(floor_for(**told), {(A2, A2B1): 1})
        self.assertIs(is_floor(**told, value={(A2, A2B1): 1}), True)
        self.same(floor_for(Registry(HAND), {"b": LOW}, HAND_TRIALS), {})
        for value in any_values() + NO_CULPRITS:
            self.assertIs(is_plan_for(**told, value=value), False)
            self.assertIs(is_plan_for(**told, value=("these", value)), False)
            self.assertIs(is_plan_for(**told, value=("try", value, one, both)), False)
            self.assertIs(is_plan_for(**told, value=("try", {"a": V2}, value, both)), False)
            self.assertIs(is_plan_for(**told, value=("try", {"a": V2}, one, ("these", (value,)))), False)


class Floors(Case):
    def test_floors(self):
        seen = {"flat": 0, "high": 0, "wrong": 0}
        for rng, look, roots, found, sound in plan_cases(584, 120):
            registry, names = Registry(look.kits), tuple(found)
            args = (registry, roots, look.trials)
            if not 1 <= len(names) <= 12:
                continue
            known = {}
            least, floor = plain_depth(names, sound, known), self.answers_anew(floor_for, *args)
            self.assertIs(is_floor(*args, floor), True)
            self.assertIs(is_floor(*args, {}), True)
            if least == 0:
                seen["flat"] += 1
                self.same(floor, {})
                continue
            self.same(floor[names], least)
            self.assertTrue(plain_is_floor(names, sound, floor))
            whole = {key: depth for key, depth in known.items() if depth > 0}
            self.assertIs(is_floor(*args, whole), True)
            seen["high"] += least > 1
            for key in rng.sample(sorted(floor), min(5, len(floor))):
                less = {other: floor[other] for other in floor if other != key}
                near = [less] + [{**floor, key: number} for number in (1, floor[key] - 1, floor[key] + 1, 10 ** 99)]
                near += [{**floor, key[1:]: 1}, {**floor, key[:2]: 2}, {**floor, names: floor[names] + 1}]
                near += [{**floor, key[:1]: 1}, {**floor, key[-1:]: 2}, {key[:1]: 2}, {key[:1]: 1}]
                for value in near:
                    right = all(number > 0 for number in value.values()) and plain_is_floor(names, sound, value)
                    self.assertIs(is_floor(*args, value), right, value)
                    seen["wrong"] += not right
                for wrong in [{**floor, key: True}, {**floor, key: str(floor[key])}, {**floor, key: None}, {**floor, key: 0},
                              {**floor, key: -1}, {**less, key[::-1]: 1}, {**floor, key + key[:1]: 1}, {**floor, (): 1},
                              {**floor, key + ("zz",): 1}, {**floor, None: 1}, list(floor.items()), {**floor, key[0]: 1}]:
                    self.assertIs(is_floor(*args, wrong), False, wrong)
                # No plan for a key has less depth than its number.
                self.assertLessEqual(floor[key], known.get(key, plain_depth(key, sound, known)))
        self.assertGreater(min(seen.values()), 10, seen)

    def test_any_value(self):
        registry = Registry(HAND)
        for value in any_values():
            right = isinstance(value, dict) and not value
            self.assertIs(is_floor(registry, {}, HAND_TRIALS, value), right)
            self.assertIs(is_floor(registry, {}, HAND_TRIALS, {(A2, A2B1): value}), type(value) is int and value == 1)
        self.assertIs(is_floor(registry, {}, HAND_TRIALS, {((("a", TRUE),), A2B1): 1}), False)
        self.assertIs(is_floor(registry, {}, HAND_TRIALS, {(A2, (("a", V2), ("b", TRUE))): 1}), False)
        for key in [((("b", V2),), A2), (A2, (("b", V2),)), (A2, A2B1, (("b", V2),)), ((("a", V1),), A2, A2B1)]:
            self.assertIs(is_floor(registry, {}, HAND_TRIALS, {key: 1}), False)

    def test_order_of_errors(self):
        registry = Registry(HAND)
        bad = [({}, False)]
        for call, more in [(plan_for, []), (is_plan_for, [None]), (tries, []), (floor_for, []), (is_floor, [None]),
                           (worth_trying, [])]:
            self.refuses(NotRegistry, call, None, None, None, *more)
            self.refuses(BadRoots, call, registry, None, None, *more)
            self.refuses(BadTrials, call, registry, {}, None, *more, at=None)
            self.refuses(NoTheory, call, registry, {}, bad, *more, at=0)
        self.refuses(NoTheory, suspects, registry, bad, at=0)
        self.refuses(NotRegistry, would_tell, None, None, None, None)
        self.refuses(BadTrials, would_tell, registry, None, None, None, at=None)
        self.refuses(BadSet, would_tell, registry, bad, None, None)
        self.refuses(BadWorked, would_tell, registry, bad, {}, None)
        self.refuses(NoTheory, would_tell, registry, bad, {}, True, at=0)
        for rng, look in contrary_cases(585, 10):
            at = next(at for at, (chosen, worked) in enumerate(look.trials) if not worked and not any(
                lies_in(culprit, chosen) for culprit in open_culprits(Registry(look.kits), look.trials)))
            self.refuses(NoTheory, suspects, Registry(look.kits), look.trials, at=at)
            self.refuses(NoTheory, worth_trying, Registry(look.kits), {}, look.trials, at=at)


class OneMoreTrial(Case):
    def test_would_tell(self):
        seen = {"none": 0, "cleared": 0, "sure": 0, "nothing": 0}
        for rng, look, _ in trial_cases(586, 100, most=12):
            registry = Registry(look.kits)
            for chosen in rng.sample(plain_sets(look.kits), 3 if len(look.kits) > 1 else 1):
                for worked in (True, False):
                    found = self.answers_anew(would_tell, registry, look.trials, chosen, worked)
                    later = look.trials + [(chosen, worked)]
                    if not look.fit(later):
                        seen["none"] += 1
                        self.same(found, None)
                        self.same(verdict(registry, look.trials, chosen)[0], "fails" if worked else "works")
                        continue
                    cleared = [culprit for culprit in look.cleared(later) if culprit not in look.cleared()]
                    sure = [culprit for culprit in look.sure(later) if culprit not in look.sure()]
                    self.same(found, (cleared, sure))
                    seen["cleared" if cleared else "sure" if sure else "nothing"] += 1
                    seen["sure"] += bool(cleared and sure)
                    if len(later) <= 12:
                        self.same(sure_culprits(registry, later), sorted({*sure, *sure_culprits(registry, look.trials)}))
        self.assertGreater(min(seen.values()), 20, seen)
        for value in any_values():
            if not isinstance(value, bool):
                self.refuses(BadWorked, would_tell, Registry(HAND), HAND_TRIALS, {}, value)

    def test_by_hand(self):
        told = {"registry": Registry(HAND), "trials": HAND_TRIALS}
        self.same(would_tell(**told, chosen={"a": V2}, worked=True), ([A2], [A2B1]))
        self.same(would_tell(**told, chosen={"a": V2}, worked=False), ([], [A2]))
        self.same(would_tell(**told, chosen={"a": V2, "b": V1}, worked=True), None)
        self.same(would_tell(**told, chosen={}, worked=False), None)
        self.same(would_tell(**told, chosen={}, worked=True), ([], []))
        self.same(would_tell(Registry(HAND), [({}, True)] * 12, {"a": V1}, True), ([(("a", V1),)], []))

    def test_worth_trying(self):
        many = 0
        for rng, look, roots in trial_cases(587, 100, most=12):
            found = self.answers_anew(worth_trying, Registry(look.kits), roots, look.trials)
            self.same(found, [chosen for chosen in plain_sound(look.kits, roots) if look.word(chosen) == "open"])
            many += bool(found)
        self.assertGreater(many, 50)
        self.same(worth_trying(registry=Registry(HAND), roots={"a": HIGH, "b": ALL}, trials=HAND_TRIALS), [{"a": V2, "b": V2}])


if __name__ == "__main__":
    unittest.main()
