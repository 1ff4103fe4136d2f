"""Promises [86], [87] and [88]: culprits, theories, verdicts, and sets that surely work or need not fail."""

import itertools
import random
import unittest

from kitwright.best import is_better
from kitwright.clauses import given_clauses, is_clause, keeps
from kitwright.errors import BadRanked, BadRoots, BadSet, BadTheory, BadTrials, NoTheory, NotRegistry
from kitwright.refuting import is_refutation
from kitwright.registries import Registry
from kitwright.sets import installs
from kitwright.toldback import (
    boldest, contradiction, culprits_in, fails_by, hopeful_clauses, is_contradiction, is_culprit, is_fitting, is_verdict,
    open_culprits, safest, sure_culprits, verdict, wary_clauses)
from tests.samples import ALL, APP, EMPTY, HIGH, V1, V2, Case, any_values, plain_sets, plain_sound, some_kits
from tests.trialdraws import (
    A2, A2B1, HAND, HAND_TRIALS, contrary_cases, is_clearing, lies_in, plain_culprits, trial_cases)

TRUE = (True, 0, 0)
# Values that are near to culprits.
NO_CULPRITS = [(("a", V1), ("a", V2)), (("b", V1), ("a", V1)), (("a", V1), ("a", V1)), [("a", V1)], ("a", V1), (["a", V1],),
               (("a", TRUE),), (("a", list(V1)),), (("z", V1),), (("a", (9, 9, 9)),), (("a", V1), ("b", V1), ("c", V1)), ((),),
               (("a", V1, 1),), (("a", ()),), ("ab",), (("a", V1), None)]


def judged_by_all(seed, many, **more):
    """Triples of a generator, a look, and the pairs of the sets of its registry and how they go by all theories."""
    for rng, look, roots in trial_cases(seed, many, **more):
        yield rng, look, [(chosen, look.word(chosen)) for chosen in plain_sets(look.kits)]


class Culprits(Case):
    def test_culprits(self):
        rng = random.Random(551)
        for _ in range(40):
            kits = some_kits(rng, most_kits=4, most_versions=3)
            registry, wanted = Registry(kits), plain_culprits(kits)
            for culprit in wanted:
                self.assertIs(is_culprit(registry=registry, value=culprit), True)
                self.assertIs(is_culprit(registry, list(culprit)), False)
                self.assertIs(is_culprit(registry, culprit[::-1]), len(culprit) == 1)
            self.same(self.answers_anew(open_culprits, registry, []), wanted)
            for chosen in rng.sample(plain_sets(kits), min(12, len(plain_sets(kits)))):
                found = self.answers_anew(culprits_in, registry, chosen)
                self.same(found, [culprit for culprit in wanted if lies_in(culprit, chosen)])
                self.same(culprits_in(registry=registry, chosen=dict(reversed(chosen.items()))), found)
                cleared = open_culprits(registry, [(chosen, True), (plain_sets(kits)[-1], False)])
                self.same(cleared, [culprit for culprit in wanted if culprit not in found])

    def test_any_value(self):
        registry = Registry(HAND)
        for value in any_values() + NO_CULPRITS:
            self.assertIs(is_culprit(registry, value), False, value)
            self.assertIs(is_culprit(registry, (("a", V1), value)), False, value)
            if not (isinstance(value, tuple) and value in ((), )):
                self.refuses(BadTheory, fails_by, registry, (value,), {})
                self.refuses(BadTheory, fails_by, registry, (A2, value), {})
                self.assertIs(is_fitting(registry, [], (value,)), False)

    def test_fails_by(self):
        for rng, look, sets in judged_by_all(552, 40):
            registry = Registry(look.kits)
            for _ in range(20):
                bits = rng.choice(look.all)
                chosen = rng.choice(sets)[0]
                self.assertIs(fails_by(registry, look.theory(bits), chosen), bool(bits & look.bits(chosen)))
        registry = Registry(HAND)
        self.assertIs(fails_by(registry=registry, theory=(A2,), chosen={"a": V2}), True)
        self.assertIs(fails_by(registry, (A2B1,), {"a": V2}), False)
        self.assertIs(fails_by(registry, (), {"a": V2}), False)
        for wrong in [(A2B1, A2), (A2, A2), [A2], A2, {A2: 1}, None, (A2, 1), ((("b", V1), ("a", V2)),)]:
            self.refuses(BadTheory, fails_by, registry, wrong, None)
            self.assertIs(is_fitting(registry, HAND_TRIALS, wrong), False)
        self.refuses(BadSet, fails_by, registry, (), None)
        self.refuses(NotRegistry, fails_by, None, None, None)

    def test_is_fitting(self):
        for rng, look, _ in judged_by_all(553, 60, flips=0.05):
            registry = Registry(look.kits)
            for bits in rng.sample(look.all, min(40, len(look.all))) + rng.sample(look.fitting, min(10, len(look.fitting))):
                theory = look.theory(bits)
                self.assertIs(is_fitting(registry, look.trials, theory), bits in look.fitting)
                self.assertIs(is_fitting(registry=registry, trials=tuple(look.trials), value=list(theory)), False)
                if len(theory) > 1:
                    self.assertIs(is_fitting(registry, look.trials, theory[::-1]), False)
            # It fits exactly if its culprits are open, and one of them is in the set of each failed trial.
            self.assertIs(is_fitting(registry, look.trials, tuple(open_culprits(registry, look.trials))), True)
        for value in any_values():
            self.assertIs(is_fitting(Registry(HAND), [], value), isinstance(value, tuple) and value == ())
            self.assertIs(is_fitting(Registry(HAND), HAND_TRIALS, value), False)


class Trials(Case):
    def test_trials_that_are_none(self):
        registry = Registry(HAND)
        good = ({"a": V1}, True)
        for value in any_values() + [{0: good}, good]:
            if not (isinstance(value, (list, tuple)) and len(value) == 0):
                wrong = 0 if isinstance(value, (list, tuple)) and len(value) <= 12 else None
                self.refuses(BadTrials, open_culprits, registry, value, at=wrong)
                self.refuses(BadTrials, verdict, registry, value, {}, at=wrong)
            if value != good:
                self.refuses(BadTrials, open_culprits, registry, [good, value, None], at=1)
            if not isinstance(value, bool):
                self.refuses(BadTrials, open_culprits, registry, [good, ({"a": V1}, value)], at=1)
            if not (isinstance(value, dict) and not value):
                self.refuses(BadTrials, open_culprits, registry, [good, good, (value, True)], at=2)
        for wrong in [[{"a": V1}, True], ({"a": V1},), ({"a": V1}, True, 1), ({"a": TRUE}, True), ({"a": V1}, 1), ({"z": V1}, True),
                      ({"a": ()}, True), ({"a": V1}, 0)]:
            self.refuses(BadTrials, open_culprits, registry, (good, wrong), at=1)
        self.refuses(BadTrials, open_culprits, registry, [good] * 13, at=None)
        self.same(len(open_culprits(registry, [good] * 12)), 7)

    def test_arguments_are_copied(self):
        trials = [({"a": V1, "b": V1}, True)]
        found = open_culprits(Registry(HAND), trials)
        trials[0][0].clear()
        trials.append(({"a": V2}, True))
        self.same(found, [culprit for culprit in plain_culprits(HAND) if not lies_in(culprit, {"a": V1, "b": V1})])


class Contradictions(Case):
    def test_trials_that_some_theory_fits(self):
        for rng, look, _ in judged_by_all(554, 60):
            registry = Registry(look.kits)
            self.same(contradiction(registry, look.trials), None)
            for at, (chosen, worked) in enumerate(look.trials):
                told = {culprit: 0 for culprit in culprits_in(registry, chosen)}
                self.assertIs(is_contradiction(registry, look.trials, (at, told)), False)

    def test_contradictions(self):
        later = empty = 0
        for rng, look in contrary_cases(555, 150):
            registry = Registry(look.kits)
            open_ones = open_culprits(registry, look.trials)
            ats = [at for at, (chosen, worked) in enumerate(look.trials)
                   if not worked and not any(lies_in(culprit, chosen) for culprit in open_ones)]
            at, cleared = self.answers_anew(contradiction, registry, look.trials)
            self.same(at, min(ats))
            self.assertTrue(is_clearing(look, culprits_in(registry, look.trials[at][0]), cleared))
            self.assertIs(is_contradiction(registry=registry, trials=look.trials, value=(at, cleared)), True)
            later += at > 0
            empty += not cleared
            self.otherwise(registry, look, ats)
        self.assertGreater(min(later, empty), 20)

    def otherwise(self, registry, look, ats):
        """Contradictions at all indexes, and with one thing otherwise."""
        for at, (chosen, worked) in enumerate(look.trials):
            asked = culprits_in(registry, chosen)
            told = {culprit: next((at for at, (other, went) in enumerate(look.trials) if went and lies_in(culprit, other)), 0)
                    for culprit in asked}
            self.assertIs(is_contradiction(registry, look.trials, (at, told)), at in ats)
            if at not in ats:
                continue
            for wrong in [(at,), (at, told, 1), [at, told], (at, list(told.items())), (at, None), (None, told), (-1, told),
                          (len(look.trials), told), (True, told), (str(at), told), (at, {**told, None: 0}),
                          (at, {**told, (("zz", V1),): 0})]:
                right = wrong[0] == at and isinstance(wrong[0], bool) is False and wrong == (at, told)
                self.assertIs(is_contradiction(registry, look.trials, wrong), right, wrong)
            for culprit in asked:
                less = {other: told[other] for other in told if other != culprit}
                self.assertIs(is_contradiction(registry, look.trials, (at, less)), False)
                for place in [*range(len(look.trials) + 1), -1, None, True, False]:
                    right = type(place) is int and is_clearing_at(look, culprit, place)
                    self.assertIs(is_contradiction(registry, look.trials, (at, {**told, culprit: place})), right)

    def test_no_theory(self):
        for rng, look in contrary_cases(556, 20):
            registry = Registry(look.kits)
            at = contradiction(registry, look.trials)[0]
            for call, more in [(verdict, [{}]), (is_verdict, [{}, None]), (sure_culprits, []), (wary_clauses, []),
                               (hopeful_clauses, [])]:
                self.refuses(NoTheory, call, registry, look.trials, *more, at=at)
            for call in (safest, boldest):
                self.refuses(NoTheory, call, registry, {}, look.trials, sorted(look.kits), at=at)
                self.refuses(BadRanked, call, registry, {}, look.trials, [])
                self.refuses(BadRoots, call, registry, None, look.trials, [])
            self.refuses(BadSet, verdict, registry, look.trials, None)
            self.refuses(BadSet, is_verdict, registry, look.trials, None, None)
            self.same(contradiction(registry, look.trials)[0], at)

    def test_by_hand(self):
        registry = Registry(HAND)
        trials = [({"a": V1}, True), ({"a": V1}, False), ({}, False)]
        self.same(contradiction(registry=registry, trials=trials), (1, {(("a", V1),): 0}))
        self.assertIs(is_contradiction(registry, trials, (2, {})), True)
        self.same(contradiction(registry, trials[2:]), (0, {}))
        for value in any_values():
            self.assertIs(is_contradiction(registry, trials, value), False)
            self.assertIs(is_contradiction(registry, trials, (value, {})), False)
            self.assertIs(is_contradiction(registry, trials, (2, value)), isinstance(value, dict) and not value)
            self.assertIs(is_contradiction(registry, trials, (1, {(("a", V1),): value})), type(value) is int and value == 0)
        self.assertIs(is_contradiction(registry, trials, (1, {(("a", TRUE),): 0})), False)


def is_clearing_at(look, culprit, at):
    """Whether the trial with an index clears a culprit."""
    return 0 <= at < len(look.trials) and look.trials[at][1] and lies_in(culprit, look.trials[at][0])


class Verdicts(Case):
    def test_verdicts(self):
        seen = {"works": 0, "fails": 0, "open": 0}
        for rng, look, sets in judged_by_all(557, 60, most=12):
            registry = Registry(look.kits)
            for chosen, word in rng.sample(sets, min(len(sets), 9)):
                found = self.answers_anew(verdict, registry, look.trials, chosen)
                seen[word] += 1
                self.assertEqual(found[0], word)
                self.assertTrue(self.is_right(look, chosen, found))
                self.assertIs(is_verdict(registry=registry, trials=look.trials, chosen=chosen, value=found), True)
                self.otherwise(registry, look, chosen, found)
                for other, _ in sets[:6]:
                    told = verdict(registry, look.trials, other)
                    self.assertIs(is_verdict(registry, look.trials, chosen, told), self.is_right(look, chosen, told))
        self.assertGreater(min(seen.values()), 30, seen)

    def is_right(self, look, chosen, value):
        """Whether a verdict on some set is one on this set, by the words of the promise."""
        asked = [culprit for culprit in look.culprits if lies_in(culprit, chosen)]
        if value[0] == "works":
            return is_clearing(look, asked, value[1])
        if value[0] == "fails":
            rest = [culprit for culprit in look.culprits if lies_in(culprit, look.trials[value[1]][0]) and culprit not in asked]
            return not look.trials[value[1]][1] and is_clearing(look, rest, value[2])
        one, other = look.mask(value[1]), look.mask(value[2])
        return one in look.fitting and other in look.fitting and not one & look.bits(chosen) and bool(other & look.bits(chosen))

    def otherwise(self, registry, look, chosen, found):
        """Verdicts with one thing otherwise."""
        def judged(value):
            return is_verdict(registry, look.trials, chosen, value)
        for wrong in [found[:-1], found + (1,), list(found), (found[0].upper(), *found[1:]), found[1:], (None, *found[1:])]:
            self.assertIs(judged(wrong), False)
        for word in ("works", "fails", "open"):
            if word != found[0]:
                self.assertIs(judged((word, *found[1:])), False)
        if found[0] == "open":
            self.assertIs(judged(("open", found[2], found[1])), False)
            self.assertIs(judged(("open", list(found[1]), found[2])), False)
            for bits in look.all[:64]:
                for value in [("open", look.theory(bits), found[2]), ("open", found[1], look.theory(bits))]:
                    self.assertIs(judged(value), self.is_right(look, chosen, value))
            return
        told = found[-1]
        for culprit in look.culprits:
            less = {other: told[other] for other in told if other != culprit}
            self.assertIs(judged((*found[:-1], less)), less == told)
            for at in range(len(look.trials)):
                value = (*found[:-1], {**told, culprit: at})
                self.assertIs(judged(value), self.is_right(look, chosen, value))
            for at in (None, -1, 12, False, True, "0"):
                self.assertIs(judged((*found[:-1], {**told, culprit: at})), False)
        if found[0] == "fails":
            for at in range(len(look.trials)):
                value = ("fails", at, told)
                self.assertIs(judged(value), self.is_right(look, chosen, value))
            for at in (None, -1, 12, True, "0"):
                self.assertIs(judged(("fails", at, told)), False)

    def test_sure_culprits(self):
        some = 0
        for rng, look, _ in judged_by_all(558, 150, most=12):
            found = self.answers_anew(sure_culprits, Registry(look.kits), look.trials)
            self.same(found, look.sure())
            some += bool(found)
        self.assertGreater(some, 25)

    def test_by_hand(self):
        registry = Registry(HAND)
        self.same(verdict(registry=registry, trials=HAND_TRIALS, chosen={"a": V2, "b": V1}), ("fails", 1, {}))
        self.same(verdict(registry, HAND_TRIALS, {"a": V2})[0], "open")
        self.same(verdict(registry, HAND_TRIALS, {}), ("works", {}))
        self.same(verdict(registry, HAND_TRIALS, {"a": V1}), ("works", {(("a", V1),): 0}))
        self.same(sure_culprits(registry=registry, trials=HAND_TRIALS), [])
        self.same(sure_culprits(registry, HAND_TRIALS + [({"a": V2}, True)]), [A2B1])
        self.assertIs(is_verdict(registry, HAND_TRIALS, {"a": V2}, ("open", (A2B1,), (A2, A2B1))), True)
        self.assertIs(is_verdict(registry, HAND_TRIALS, {"a": V2}, ("open", (A2B1,), (A2,))), True)
        self.assertIs(is_verdict(registry, HAND_TRIALS, {"a": V2}, ("open", (A2,), (A2B1,))), False)
        for value in any_values():
            for chosen in ({}, {"a": V2}, {"a": V2, "b": V1}):
                self.assertIs(is_verdict(registry, HAND_TRIALS, chosen, value), False)
                self.assertIs(is_verdict(registry, HAND_TRIALS, chosen, ("open", value, (A2,))), False)
                self.assertIs(is_verdict(registry, HAND_TRIALS, chosen, ("open", (A2B1,), value)), False)
                right = isinstance(value, dict) and not value
                self.assertIs(is_verdict(registry, HAND_TRIALS, chosen, ("works", value)), right and not chosen)
                self.assertIs(is_verdict(registry, HAND_TRIALS, chosen, ("fails", 1, value)), right and len(chosen) == 2)
                self.assertIs(is_verdict(registry, HAND_TRIALS, chosen, ("fails", value, {})),
                              type(value) is int and value == 1 and len(chosen) == 2)


class Clauses(Case):
    def test_clauses(self):
        for rng, look, sets in judged_by_all(559, 80, most=12):
            registry = Registry(look.kits)
            wary = self.answers_anew(wary_clauses, registry, look.trials)
            hopeful = self.answers_anew(hopeful_clauses, registry, look.trials)
            asked = [culprit for culprit in look.culprits if culprit not in look.cleared()]
            self.same(wary, sorted(tuple((kit, (version,)) for kit, version in culprit) for culprit in asked))
            rows = []
            for chosen, worked in look.trials:
                pairs = {pair for culprit in asked if lies_in(culprit, chosen) for pair in culprit}
                if not worked:
                    rows.append(tuple((kit, (version,)) for kit, version in sorted(pairs)))
            self.same(hopeful, sorted(set(rows)))
            for clause in wary + hopeful:
                self.assertIs(is_clause(registry, clause), True)
            for chosen, word in sets:
                self.assertEqual(word == "works", all(keeps(registry, chosen, clause) for clause in wary))
                self.assertEqual(word != "fails", all(keeps(registry, chosen, clause) for clause in hopeful))

    def test_safest_and_boldest(self):
        seen = {"safe": 0, "none": 0, "bold": 0, "never": 0}
        for rng, look, roots in trial_cases(560, 200, most=12):
            registry, ranked = Registry(look.kits), sorted(look.kits)
            rng.shuffle(ranked)
            sound = plain_sound(look.kits, roots)
            for call, clauses, words, told in [(safest, wary_clauses, ["works"], ("safe", "none")),
                                               (boldest, hopeful_clauses, ["works", "open"], ("bold", "never"))]:
                good = [chosen for chosen in sound if look.word(chosen) in words]
                word, found = self.answers_anew(call, registry, roots, look.trials, ranked)
                if good:
                    seen[told[0]] += 1
                    self.assertEqual(word, "set")
                    self.assertIn(found, good)
                    self.assertFalse(any(is_better(registry, ranked, other, found) for other in good))
                    self.assertIn(found, installs(registry, roots))
                    continue
                seen[told[1]] += 1
                self.assertEqual(word, "refutation")
                rows = sorted({*given_clauses(registry, roots), *clauses(registry, look.trials)})
                self.assertIs(is_refutation(registry, rows, found), True)
        self.assertGreater(min(seen.values()), 15, seen)

    def test_by_hand(self):
        registry, roots = Registry(HAND), {"a": HIGH, "b": ALL}
        self.same(hopeful_clauses(registry=registry, trials=HAND_TRIALS), [(("a", (V2,)), ("b", (V1,)))])
        self.same(len(wary_clauses(registry=registry, trials=HAND_TRIALS)), 5)
        self.same(boldest(registry=registry, roots=roots, trials=HAND_TRIALS, ranked=["a", "b"]), ("set", {"a": V2, "b": V2}))
        self.same(safest(registry=registry, roots=roots, trials=HAND_TRIALS, ranked=["a", "b"])[0], "refutation")
        self.same(safest(registry, {"a": ALL}, HAND_TRIALS, ["a", "b"]), ("set", {"a": V1}))
        self.same(hopeful_clauses(registry, HAND_TRIALS + [HAND_TRIALS[1]]), hopeful_clauses(registry, HAND_TRIALS))
        self.refuses(NotRegistry, safest, None, None, None, None)
        self.refuses(BadRoots, safest, registry, None, None, None)
        self.refuses(BadTrials, safest, registry, {}, None, None, at=None)
        self.refuses(BadRanked, safest, registry, {}, [], None)


class AcrossRegistries(Case):
    def test_what_is_published_is_open(self):
        for rng, look, _ in judged_by_all(561, 40):
            registry = Registry(look.kits)
            later = registry.published("a", (9, 9, 9), EMPTY)
            self.assertLessEqual(set(open_culprits(registry, look.trials)), set(open_culprits(later, look.trials)))
            for chosen in plain_sets(look.kits):
                self.assertEqual(verdict(later, look.trials, chosen)[0], verdict(registry, look.trials, chosen)[0])
            self.same(sure_culprits(later, look.trials), sure_culprits(registry, look.trials))
            # Nothing is known of a set with the new version, unless it has all that failed.
            self.assertIn(verdict(later, look.trials, {"a": (9, 9, 9)})[0], ["open", "fails"])

    def test_larger_sets_fail_as_well(self):
        for rng, look, sets in judged_by_all(562, 40, most=12):
            words = {tuple(sorted(chosen.items())): word for chosen, word in sets}
            for one, other in itertools.product(words, repeat=2):
                if set(one) <= set(other):
                    self.assertFalse(words[one] == "fails" != words[other] or words[other] == "works" != words[one])

    def test_registry_of_the_other_tests(self):
        registry = Registry(APP)
        self.same(verdict(registry, [({"app": V1, "lib": V1}, False)], {"app": V1})[0], "open")


if __name__ == "__main__":
    unittest.main()
