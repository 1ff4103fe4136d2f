"""Promises [89] and [90]: few culprits and hunts, least theories, trials that are needless."""

import unittest

from kitwright.best import best_install, is_better
from kitwright.errors import BadCulprits, BadIndex, BadNumber, BadSet, BadTrials, NoTheory, NotRegistry, TooMany
from kitwright.ranges import Range
from kitwright.registries import Registry
from kitwright.sets import sound_sets
from kitwright.toldback import (
    boldest, few_culprits, fewest, is_fitting, is_hunt, is_needless, least_theories, open_culprits, safest, told_within, verdict)
from tests.samples import ALL, EMPTY, HIGH, V1, V2, Case, any_values, plain_sets, plain_sound
from tests.test_toldback import NO_CULPRITS, TRUE
from tests.trialdraws import A2, A2B1, HAND, HAND_TRIALS, contrary_cases, lies_in, plain_culprits, trial_cases

# Five kits in one version: 15 culprits, all of them open.
FIVE = {kit: {V1: EMPTY} for kit in "abcde"}
WHOLE = dict.fromkeys("abcde", V1)


def some_task(rng, look):
    """A number of others, what is taken and what is barred."""
    open_ones = [culprit for culprit in look.culprits if culprit not in look.cleared()]
    taken = rng.sample(open_ones, min(len(open_ones), rng.choice([0, 0, 0, 1, 1, 2, 3])))
    rest = [culprit for culprit in look.culprits if culprit not in taken]
    barred = rng.sample(rest, min(len(rest), rng.choice([0, 0, 1, 2, 4, 9])))
    return rng.choice([0, 1, 1, 2, 3]), taken, barred


# The test's own look.

def allowed(look, many, taken, barred):
    """The theories that fit, with all that is taken, nothing barred, and few others, as bits."""
    wanted, never = look.mask(taken), look.mask(barred)
    return [theory for theory in look.fitting
            if theory & wanted == wanted and not theory & never and bin(theory & ~wanted).count("1") <= many]


def plain_is_hunt(look, many, taken, barred, value):
    """Whether a value of the right kinds is a hunt, by the words of the promise."""
    at, branches = value
    if not (type(at) is int and 0 <= at < len(look.trials)) or look.trials[at][1]:
        return False
    chosen = look.trials[at][0]
    if any(lies_in(culprit, chosen) for culprit in taken):
        return False
    if many == 0:
        return branches == {}
    asked = [culprit for culprit in look.culprits
             if lies_in(culprit, chosen) and culprit not in look.cleared() and culprit not in barred]
    return set(branches) == set(asked) and all(
        plain_is_hunt(look, many - 1, [*taken, culprit], barred, branches[culprit]) for culprit in asked)


def near_hunts(rng, look, hunt):
    """Hunts with one thing otherwise, at any depth."""
    at, branches = hunt
    found = [(other, branches) for other in range(-1, len(look.trials) + 1)]
    found += [(at, {other: branches[other] for other in branches if other != culprit}) for culprit in branches]
    found += [(at, {**branches, culprit: hunt}) for culprit in rng.sample(look.culprits, min(2, len(look.culprits)))]
    found.append((at, {}))
    for culprit in rng.sample(sorted(branches), min(2, len(branches))):
        found += [(at, {**branches, culprit: other}) for other in near_hunts(rng, look, branches[culprit])]
    return found


class Hunts(Case):
    def test_few_culprits(self):
        seen = {"theory": 0, "hunt": 0, "deep": 0}
        for rng, look, _ in trial_cases(571, 200, most=10, flips=0.3):
            registry = Registry(look.kits)
            for _ in range(5):
                task = some_task(rng, look)
                many, taken, barred = task
                word, found = self.answers_anew(few_culprits, registry, look.trials, *task)
                right = [look.theory(bits) for bits in allowed(look, *task)]
                self.assertEqual(word, "theory" if right else "hunt")
                seen[word] += 1
                if right:
                    self.assertIn(found, right)
                    self.assertIs(is_fitting(registry, look.trials, found), True)
                    for at in range(len(look.trials)):
                        self.assertIs(is_hunt(registry, look.trials, *task, (at, {})), False)
                    continue
                seen["deep"] += bool(found[1])
                self.assertTrue(plain_is_hunt(look, *task, found))
                self.assertIs(is_hunt(registry, look.trials, *task, found), True)
                self.assertIs(is_hunt(registry, look.trials, many, tuple(taken), tuple(barred), found), True)
                near = near_hunts(rng, look, found)
                for value in rng.sample(near, min(len(near), 30)):
                    self.assertIs(is_hunt(registry, look.trials, *task, value), plain_is_hunt(look, *task, value), value)
                for wrong in [list(found), found[:1], found + (1,), found[::-1], (str(found[0]), found[1]), (found[0], None),
                              (found[0], list(found[1])), (found[0], {**found[1], None: found})]:
                    self.assertIs(is_hunt(registry, look.trials, *task, wrong), False)
        self.assertGreater(min(seen.values()), 25, seen)

    def test_by_hand(self):
        registry = Registry(HAND)
        told = {"registry": registry, "trials": HAND_TRIALS}
        self.same(few_culprits(**told, many=0, taken=[], barred=[]), ("hunt", (1, {})))
        self.same(few_culprits(**told, many=0, taken=[A2], barred=[]), ("theory", (A2,)))
        self.same(few_culprits(**told, many=1, taken=[], barred=[A2]), ("theory", (A2B1,)))
        self.same(few_culprits(**told, many=3, taken=[], barred=[A2B1, A2]), ("hunt", (1, {})))
        self.assertIs(is_hunt(**told, many=3, taken=[], barred=[A2, A2B1], value=(1, {})), True)
        self.assertIs(is_hunt(**told, many=3, taken=[], barred=[A2], value=(1, {})), False)
        self.same(few_culprits(registry, [], 0, [], []), ("theory", ()))
        two = HAND_TRIALS + [({"b": V2}, False)]
        b2 = (("b", V2),)
        wanted = (1, {A2: (2, {}), A2B1: (2, {})})
        self.same(few_culprits(registry, two, 1, [], []), ("hunt", wanted))
        self.assertIs(is_hunt(registry, two, 1, [], [], (2, {b2: (1, {})})), True)
        self.assertIs(is_hunt(registry, two, 1, [], [], (1, {A2: (2, {}), (("a", (2, 0, 0)), ("b", TRUE)): (2, {})})), False)
        for value in any_values():
            for task in [(0, [], []), (1, [], [A2, A2B1]), (1, [], [])]:
                self.assertIs(is_hunt(registry, HAND_TRIALS, *task, value), False)
                right = type(value) is int and value == 1 and task != (1, [], [])
                self.assertIs(is_hunt(registry, HAND_TRIALS, *task, (value, {})), right)
                right = isinstance(value, dict) and not value and task != (1, [], [])
                self.assertIs(is_hunt(registry, HAND_TRIALS, *task, (1, value)), right)
            self.assertIs(is_hunt(registry, two, 1, [], [], (1, {A2: (2, {}), A2B1: value})), False)

    def test_what_is_refused(self):
        registry, open_ones = Registry(HAND), open_culprits(Registry(HAND), HAND_TRIALS)
        cleared = (("a", V1),)
        for call, more in [(few_culprits, []), (is_hunt, [None])]:
            self.refuses(NotRegistry, call, None, None, None, None, None, *more)
            self.refuses(BadTrials, call, registry, None, None, None, None, *more, at=None)
            self.refuses(BadNumber, call, registry, HAND_TRIALS, None, None, None, *more)
            self.refuses(BadCulprits, call, registry, HAND_TRIALS, 0, None, None, *more, part="taken")
            self.refuses(BadCulprits, call, registry, HAND_TRIALS, 0, [], None, *more, part="barred")
            for value in any_values() + [4, -1]:
                if not (type(value) is int and 0 <= value <= 3):
                    self.refuses(BadNumber, call, registry, HAND_TRIALS, value, [], [], *more)
                if not (isinstance(value, (list, tuple)) and not value):
                    self.refuses(BadCulprits, call, registry, HAND_TRIALS, 0, value, None, *more, part="taken")
                    self.refuses(BadCulprits, call, registry, HAND_TRIALS, 0, [], value, *more, part="barred")
                self.refuses(BadCulprits, call, registry, HAND_TRIALS, 0, [value], [], *more, part="taken")
                self.refuses(BadCulprits, call, registry, HAND_TRIALS, 0, [], [A2, value], *more, part="barred")
            for wrong in NO_CULPRITS + [cleared, [A2, A2], open_ones[:4], {A2: 1}]:
                taken = wrong if isinstance(wrong, (list, dict)) and wrong not in NO_CULPRITS else [wrong]
                self.refuses(BadCulprits, call, registry, HAND_TRIALS, 0, taken, [], *more, part="taken")
            for wrong in [[A2, A2], {A2: 1}, [A2B1, A2]]:
                self.refuses(BadCulprits, call, registry, HAND_TRIALS, 0, [A2], wrong, *more, part="barred")
        # Cleared ones can be barred, and up to twenty.
        self.same(few_culprits(registry, HAND_TRIALS, 1, [], [cleared])[0], "theory")
        house = Registry({kit: {V1: EMPTY, V2: EMPTY} for kit in "abcd"})
        many = plain_culprits({kit: {V1: EMPTY, V2: EMPTY} for kit in "abcd"})
        self.same(few_culprits(house, [], 3, many[20:23], many[:20])[0], "theory")
        self.refuses(BadCulprits, few_culprits, house, [], 3, [], many[:21], part="barred")
        self.refuses(BadCulprits, few_culprits, house, [], 3, many[:4], [], part="taken")

    def test_no_theory(self):
        for rng, look in contrary_cases(572, 15):
            registry = Registry(look.kits)
            at = min(at for at, (chosen, worked) in enumerate(look.trials) if not worked and not any(
                lies_in(culprit, chosen) for culprit in open_culprits(registry, look.trials)))
            for call, more in [(few_culprits, [0, [], []]), (is_hunt, [0, [], [], None]), (fewest, []), (told_within, [{}, 0]),
                               (least_theories, []), (is_needless, [0])]:
                self.refuses(NoTheory, call, registry, look.trials, *more, at=at)
            for call, more, error in [(few_culprits, [0, [], [1]], BadCulprits), (told_within, [{}, None], BadNumber),
                                      (told_within, [None, None], BadSet), (is_needless, [99], BadIndex)]:
                self.refuses(error, call, registry, look.trials, *more)

    def test_boldest_sets_hunt(self):
        # Who tries the boldest set again and again comes to the best sound set that works, whatever the culprits are.
        tried = many = 0
        for rng, look, _ in trial_cases(573, 120, most=0):
            roots = {kit: rng.choice([ALL, ALL, HIGH]) for kit in sorted(look.kits)[:rng.choice([1, 2, 2, 3])]}
            registry, ranked, trials = Registry(look.kits), sorted(look.kits), []
            hidden = rng.sample(look.culprits, min(2, len(look.culprits)))
            sound = plain_sound(look.kits, roots)
            good = [chosen for chosen in sound if not any(lies_in(culprit, chosen) for culprit in hidden)]
            word, told = boldest(registry, roots, trials, ranked)
            while word == "set" and verdict(registry, trials, told)[0] == "open" and len(trials) < 12:
                trials.append((told, told in good))
                word, told = boldest(registry, roots, trials, ranked)
            if len(trials) == 12:
                continue
            tried += len(trials)
            many += 1
            self.assertEqual(word, "set" if good else "refutation")
            if good:
                self.assertFalse(any(is_better(registry, ranked, other, told) for other in good))
                self.assertIn(told, good)
                self.same(safest(registry, roots, trials, ranked), ("set", told))
            self.assertLessEqual(fewest(registry, trials)[0], 2)
        self.assertGreater(many, 100)
        self.assertGreater(tried, 80)

    def test_culprits_written_as_bars(self):
        # A manifest that bars what a culprit has besides makes the sets that have it unsound: so do all open ones.
        for rng, look, roots in trial_cases(578, 60):
            registry, kits = Registry(look.kits), {}
            for kit in look.kits:
                kits[kit] = {}
                for version, (wants, bars, after) in look.kits[kit].items():
                    more = {}
                    for culprit in open_culprits(registry, look.trials):
                        other, barred = culprit[-1]
                        if culprit[0] == (kit, version):
                            more[other] = more.get(other, Range()) | Range([(barred, barred[:2] + (barred[2] + 1,))])
                    kits[kit][version] = (wants, {other: bars.get(other, Range()) | more.get(other, Range())
                                                  for other in {**bars, **more}}, after)
            barred = Registry(kits)
            self.same(sound_sets(barred, roots), [
                chosen for chosen in sound_sets(registry, roots) if verdict(registry, look.trials, chosen)[0] == "works"])
            word, told = safest(registry, roots, look.trials, sorted(kits))
            self.same(best_install(barred, roots, sorted(kits)), told if word == "set" else None)


class Fewest(Case):
    def test_fewest(self):
        seen = {0: 0, 1: 0, 2: 0}
        for rng, look, _ in trial_cases(574, 250, most=12):
            registry = Registry(look.kits)
            many, theory = self.answers_anew(fewest, registry, look.trials)
            self.same(many, min(bin(bits).count("1") for bits in look.fitting))
            self.same(len(theory), many)
            self.assertIs(is_fitting(registry, look.trials, theory), True)
            if many <= 3:
                self.assertEqual(few_culprits(registry, look.trials, many, [], [])[0], "theory")
                if many > 0:
                    self.assertEqual(few_culprits(registry, look.trials, many - 1, [], [])[0], "hunt")
            seen[many] = seen.get(many, 0) + 1
        self.assertGreater(min(seen.values()), 8, seen)

    def test_many_trials(self):
        # Twelve trials of unlike kits and versions: no culprit is in two of the first ones.
        house = {kit: {(n, 0, 0): EMPTY for n in (1, 2, 3)} for kit in "abcd"}
        trials = [({kit: (n, 0, 0)}, False) for kit in "abcd" for n in (1, 2, 3)]
        many, theory = fewest(registry=Registry(house), trials=trials)
        self.same([many, theory], [12, tuple(((kit, (n, 0, 0)),) for kit in "abcd" for n in (1, 2, 3))])
        self.same(least_theories(registry=Registry(house), trials=trials), [theory])
        wide = [({"a": V1, "b": V2, "c": V1, "d": (n, 0, 0)}, False) for n in (1, 2, 3)] * 4
        self.same(fewest(Registry(house), wide)[0], 1)

    def test_told_within(self):
        seen = {"works": 0, "fails": 0, "open": 0, None: 0}
        for rng, look, _ in trial_cases(575, 120, most=8):
            registry = Registry(look.kits)
            for chosen in rng.sample(plain_sets(look.kits), 4 if len(look.kits) > 1 else 1):
                for many in range(4):
                    wanted = look.word(chosen, [bits for bits in look.fitting if bin(bits).count("1") <= many])
                    self.same(told_within(registry, look.trials, chosen, many), wanted)
                    seen[wanted] += 1
                    inside = [culprit for culprit in look.culprits if lies_in(culprit, chosen)]
                    hunts = [few_culprits(registry, look.trials, many, [], barred)[0] == "hunt" for barred in (inside, [])]
                    self.assertEqual(wanted == "fails", hunts == [True, False])
        self.assertGreater(min(seen.values()), 60, seen)
        for value in any_values() + [4, -1]:
            if not (type(value) is int and 0 <= value <= 3):
                self.refuses(BadNumber, told_within, Registry(HAND), [], {}, value)
        self.same(told_within(registry=Registry(HAND), trials=HAND_TRIALS, chosen={"a": V2}, many=1), "open")
        self.same(told_within(Registry(HAND), HAND_TRIALS, {"a": V2}, 0), None)
        self.same(told_within(Registry(HAND), HAND_TRIALS, {"a": V2, "b": V1}, 1), "fails")
        self.same(told_within(Registry(HAND), HAND_TRIALS, {"b": V2}, 1), "works")


class LeastTheories(Case):
    def test_least_theories(self):
        several = 0
        for rng, look, _ in trial_cases(576, 250, most=10):
            registry = Registry(look.kits)
            failed = {culprit for culprit in look.culprits if culprit not in look.cleared()
                      and any(not worked and lies_in(culprit, chosen) for chosen, worked in look.trials)}
            if len(failed) > 12:
                self.refuses(TooMany, least_theories, registry, look.trials, most=12)
                continue
            fitting = set(look.fitting)
            least = [bits for bits in look.fitting if not any(bits & ~(1 << at) in fitting for at in range(14) if bits >> at & 1)]
            found = self.answers_anew(least_theories, registry, look.trials)
            self.same(found, sorted(sorted(look.theory(bits) for bits in least), key=len))
            several += len(found) > 2
        self.assertGreater(several, 30)

    def test_limit(self):
        registry = Registry(FIVE)
        self.refuses(TooMany, least_theories, registry, [(WHOLE, False)], most=12)
        # Three of the fifteen are cleared, then two: twelve and thirteen are left.
        twelve = [({"a": V1, "b": V1}, True), (WHOLE, False)]
        self.same(least_theories(registry, twelve), [(culprit,) for culprit in plain_culprits(FIVE)
                                                     if not lies_in(culprit, {"a": V1, "b": V1})])
        thirteen = [({"a": V1}, True), ({"b": V1}, True), (WHOLE, False)]
        self.refuses(TooMany, least_theories, registry, thirteen, most=12)
        self.refuses(NoTheory, least_theories, registry, thirteen + [({}, False)], at=3)
        self.same(fewest(registry, thirteen), (1, ((("a", V1), ("b", V1)),)))
        self.same(least_theories(registry, []), [()])

    def test_is_needless(self):
        seen = {True: 0, False: 0}
        for rng, look, _ in trial_cases(577, 120, most=10):
            registry = Registry(look.kits)
            for at, (chosen, worked) in enumerate(look.trials):
                others = look.trials[:at] + look.trials[at + 1:]
                wanted = len(look.fit(others)) == len(look.fitting)
                self.assertIs(is_needless(registry, look.trials, at), wanted)
                word = verdict(registry, others, chosen)[0]
                self.assertEqual(wanted, word == ("works" if worked else "fails"))
                seen[wanted] += 1
            for value in any_values() + [len(look.trials), -1]:
                if not (type(value) is int and 0 <= value < len(look.trials)):
                    self.refuses(BadIndex, is_needless, registry, look.trials, value, at=value)
        self.assertGreater(min(seen.values()), 80, seen)
        self.assertIs(is_needless(registry=Registry(HAND), trials=HAND_TRIALS * 2, at=3), True)
        self.refuses(BadIndex, is_needless, Registry(HAND), [], 0, at=0)
        self.refuses(BadTrials, is_needless, Registry(HAND), None, None, at=None)


if __name__ == "__main__":
    unittest.main()
