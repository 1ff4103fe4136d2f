"""Promises [32] to [35]: best sets, their papers, fates, and unbeaten sets."""

import itertools
import random
import unittest

from kitwright.best import (
    beats, best_for, best_install, best_paper, count_better, fates, is_best_paper, is_better, is_fates, mark, sound_at,
    sure_states, unbeaten)
from kitwright.clauses import given_clauses, is_clause
from kitwright.errors import BadNumber, BadSet, NoKit, NoneSound, NotSound
from kitwright.ranges import Range
from kitwright.refuting import is_derivation
from kitwright.registries import Registry
from tests.samples import (
    ALL, APP, EMPTY, HIGH, LOW, NONE, V1, V2, V3, Case, any_values, plain_barred, plain_installs, plain_line, plain_sets,
    plain_sound, plain_states, some_kits, some_roots, tense_kits)


def cases(seed, many, **told):
    """Quadruples of a generator, kits, roots and an order of the kits."""
    rng = random.Random(seed)
    for at in range(many):
        kits = some_kits(rng, **(told if at % 8 else {"most_kits": 5, "most_versions": 2}))
        yield rng, kits, some_roots(rng, kits), rng.sample(sorted(kits), len(kits))


def worth(kits, ranked, chosen):
    """A list that is less for a better set."""
    return [0 if kit not in chosen else 1 + len([one for one in kits[kit] if one > chosen[kit]]) for kit in ranked]


def in_order(kits, roots, ranked):
    """The sound sets, the best one first."""
    return sorted(plain_sound(kits, roots), key=lambda chosen: worth(kits, ranked, chosen))


def tense_cases(seed, many):
    """Triples of kits, roots of all kits, and an order: what is better here is often worse there."""
    rng = random.Random(seed)
    for _ in range(many):
        kits = tense_kits(rng)
        yield kits, {name: ALL for name in kits}, rng.sample(sorted(kits), len(kits))


class Promise32(Case):
    def test_by_all_orders(self):
        for _, kits, roots, _ in cases(81, 60):
            registry = Registry(kits)
            for ranked in itertools.islice(itertools.permutations(sorted(kits)), 24):
                wanted = in_order(kits, roots, ranked)
                found = self.answers_anew(best_install, registry, roots, ranked)
                self.same(found, wanted[0] if wanted else None)
                if wanted:
                    self.assertIn(found, plain_installs(kits, roots))

    def test_one_by_one(self):
        for rng, kits, roots, ranked in cases(82, 80):
            registry, wanted = Registry(kits), in_order(kits, roots, ranked)
            for number, chosen in enumerate(wanted):
                self.same(sound_at(registry, roots, tuple(ranked), number), chosen)
                self.same(count_better(registry, roots, ranked, chosen), number)
            for number in (len(wanted), len(wanted) + 1, 10 ** 9, 10 ** 99):
                self.same(sound_at(registry, roots, ranked, number), None)
            for chosen in plain_sets(kits)[:40]:
                better = [one for one in wanted if worth(kits, ranked, one) < worth(kits, ranked, chosen)]
                self.same(count_better(registry, roots, ranked, chosen), len(better))
            one, other = rng.choice(plain_sets(kits)), rng.choice(plain_sets(kits))
            self.assertIs(is_better(registry, ranked, one, other),
                          worth(kits, ranked, one) < worth(kits, ranked, other))
            self.assertIs(is_better(registry, ranked, one, one), False)

    def test_by_hand(self):
        registry = Registry({"a": {V1: EMPTY, V2: EMPTY}, "b": {V1: EMPTY}})
        for better, worse in [({}, {"a": V2}), ({"a": V2}, {"a": V1}), ({"a": V2, "b": V1}, {"a": V1}), ({}, {"b": V1})]:
            self.assertIs(is_better(registry, ["a", "b"], better, worse), True)
            self.assertIs(is_better(registry=registry, ranked=("a", "b"), one=worse, other=better), False)
        self.assertIs(is_better(registry, ["b", "a"], {"a": V2, "b": V1}, {"a": V1}), False)
        self.same(best_install(registry=registry, roots={"a": ALL}, ranked=["b", "a"]), {"a": V2})
        self.same(sound_at(registry=registry, roots={"a": ALL}, ranked=["b", "a"], number=1), {"a": V1})
        self.same(count_better(registry=registry, roots={"a": ALL}, ranked=["b", "a"], chosen={"b": V1}), 2)

    def test_refused(self):
        registry = Registry(APP)
        for value in any_values():
            if repr(value) not in ("0", "1", "3", str(10 ** 99)):
                self.refuses(BadNumber, sound_at, registry, {}, ["app", "lib"], value)
            if value != {}:
                self.refuses(BadSet, is_better, registry, ["app", "lib"], value, {})
                self.refuses(BadSet, is_better, registry, ["app", "lib"], {}, value)
                self.refuses(BadSet, count_better, registry, {}, ["app", "lib"], value)


class Promise33(Case):
    def plain_mark(self, kits, ranked, chosen, kit):
        """The mark by the words of [33]."""
        ahead = list(ranked)[:list(ranked).index(kit)]
        pairs = [(other, (chosen.get(other, ()),)) for other in ahead]
        better = [state for state in plain_states(kits, kit) if state == () or state > chosen[kit]]
        return tuple(sorted(pairs + [(kit, tuple(better))]))

    def test_marks(self):
        for _, kits, _, ranked in cases(83, 80):
            registry = Registry(kits)
            for chosen in plain_sets(kits)[:30]:
                marks = {kit: self.plain_mark(kits, ranked, chosen, kit) for kit in chosen}
                for kit in chosen:
                    self.same(self.answers_anew(mark, registry, ranked, chosen, kit), marks[kit])
                    self.assertTrue(is_clause(registry, marks[kit]))
                for other in plain_sets(kits):
                    self.assertEqual(any(plain_barred(clause, other) for clause in marks.values()),
                                     worth(kits, ranked, other) < worth(kits, ranked, chosen))

    def test_papers(self):
        rng = random.Random(84)
        drawn = [(kits, roots, ranked) for _, kits, roots, ranked in cases(84, 120)]
        for kits, roots, ranked in drawn + list(tense_cases(92, 60)):
            registry, given = Registry(kits), given_clauses(Registry(kits), roots)
            wanted = in_order(kits, roots, ranked)
            paper = self.answers_anew(best_paper, registry, roots, ranked)
            if not wanted:
                self.assertIsNone(paper)
                continue
            chosen, shown = paper
            self.same(chosen, wanted[0])
            self.same(list(shown), sorted(chosen))
            for kit, rows in shown.items():
                clause = self.plain_mark(kits, ranked, chosen, kit)
                self.assertTrue(is_derivation(registry, given, clause, rows))
            self.assertIs(is_best_paper(registry, roots, ranked, paper), True)
            self.assertIs(is_best_paper(registry, roots, ranked, self.as_tuples(paper)), True)
            for wrong in self.wrong_papers(paper, wanted):
                self.assertIs(is_best_paper(registry, roots, ranked, wrong), False, repr(wrong))
            for other in rng.sample(wanted, min(3, len(wanted))):
                rows = {kit: shown.get(kit, [("given", 0)]) for kit in other}
                self.assertIs(is_best_paper(registry, roots, ranked, (other, rows)), other == chosen)

    def as_tuples(self, paper):
        """The paper with tuples where there are lists."""
        return paper[0], {kit: tuple(rows) for kit, rows in reversed(paper[1].items())}

    def wrong_papers(self, paper, wanted):
        """The paper with one thing otherwise."""
        chosen, shown = paper
        yield from [list(paper), (chosen,), (chosen, shown, 1), None, (None, shown), (chosen, None), (chosen, {**shown, "zz": [("given", 0)]}), (chosen, list(shown.items())), (chosen, {**shown, 1: []})]
        yield {**chosen, "zz": V1}, shown
        if chosen:
            kit = min(chosen)
            yield shown, chosen
            yield chosen, {other: rows for other, rows in shown.items() if other != kit}
            yield chosen, {**shown, kit: []}
            yield chosen, {"zz" if other == kit else other: rows for other, rows in shown.items()}
            yield chosen, {1 if other == kit else other: rows for other, rows in shown.items()}
            yield chosen, {**shown, kit: shown[kit] + [("given", -1)]}
            yield chosen, {**shown, kit: None}
            yield {**chosen, kit: (True,) + chosen[kit][1:]}, shown
            yield {**chosen, kit: list(chosen[kit])}, shown
            yield {}, {}
        if len(wanted) > 1:
            yield wanted[1], {kit: [("given", 0)] for kit in wanted[1]}

    def test_example(self):
        first = Range([(V1, None)])
        registry = Registry({"a": {V1: EMPTY, V2: ({"b": first}, {}, ())}, "b": {V1: ({}, {"a": HIGH}, ())}})
        self.same(best_install(registry, {"a": first}, ["a", "b"]), {"a": V1})
        self.same(mark(registry=registry, ranked=["b", "a"], chosen={"a": V1}, kit="a"),
                  (("a", ((), V2)), ("b", ((),))))
        paper = best_paper(registry=registry, roots={"a": first}, ranked=["a", "b"])
        self.assertIs(is_best_paper(registry=registry, roots={"a": first}, ranked=["a", "b"], value=paper), True)
        self.same(best_paper(registry, {}, ["a", "b"]), ({}, {}))
        self.assertIs(is_best_paper(registry, {}, ["a", "b"], ({}, {})), True)
        self.assertIs(is_best_paper(registry, {"a": first}, ["a", "b"], ({}, {})), False)

    def test_a_paper_shows_all_marks(self):
        # By the order b, a another set is the best one, so rows for its marks show less.
        registry = Registry({"a": {V1: ({"b": ALL}, {}, ()), V2: ({"b": LOW}, {}, ())}, "b": {V1: EMPTY, V2: EMPTY}})
        roots = {"a": ALL}
        one, other = best_paper(registry, roots, ["a", "b"]), best_paper(registry, roots, ["b", "a"])
        self.same((one[0], other[0]), ({"a": V2, "b": V1}, {"a": V1, "b": V2}))
        self.assertIs(is_best_paper(registry, roots, ["b", "a"], one), False)
        self.assertIs(is_best_paper(registry, roots, ["a", "b"], other), False)
        self.assertIs(is_best_paper(registry, roots, ["a", "b"], (one[0], {**one[1], "a": other[1]["b"]})), False)

    def test_refused(self):
        registry = Registry(APP)
        for value in any_values() + ["lib"]:
            self.refuses(NoKit, mark, registry, ["app", "lib"], {"app": V1}, value, kit=value)
            self.assertIs(is_best_paper(registry, {}, ["app", "lib"], value), False)
            self.assertIs(is_best_paper(registry, {}, ["app", "lib"], (value, {})), value == {})
            self.assertIs(is_best_paper(registry, {}, ["app", "lib"], ({}, value)), value == {})


class Promise34(Case):
    def test_fates(self):
        never = 0
        for _, kits, roots, _ in cases(85, 100):
            registry, given, sound = Registry(kits), given_clauses(Registry(kits), roots), plain_sound(kits, roots)
            found = self.answers_anew(fates, registry, roots)
            pairs = [(kit, state) for kit in sorted(kits) for state in plain_states(kits, kit)]
            self.same(list(found), pairs)
            for kit, state in pairs:
                those = [chosen for chosen in sound if chosen.get(kit, ()) == state]
                if those:
                    self.same(found[kit, state], ("some", those[0]))
                else:
                    never += 1
                    self.same(found[kit, state][0], "never")
                    clause = ((kit, (state,)),)
                    self.assertTrue(is_derivation(registry, given, clause, found[kit, state][1]))
            self.assertIs(is_fates(registry, roots, found), True)
            self.look_at_others(registry, roots, sound, found)
        self.assertGreater(never, 50)

    def look_at_others(self, registry, roots, sound, found):
        """Judges fates with one thing otherwise."""
        for pair in list(found)[:6]:
            kit, state = pair
            word, shown = found[pair]
            those = [chosen for chosen in sound if chosen.get(kit, ()) == state]
            for chosen in those:
                self.assertIs(is_fates(registry, roots, {**found, pair: ("some", chosen)}), True)
            others = [chosen for chosen in sound if chosen not in those]
            wrong = [("some", chosen) for chosen in others[:2]] + [
                ("never", []), ("never", None), ("some", None), None, ("some",), [word, shown], (word, shown, 1),
                ("some", {"zz": V1}), ("some", {**shown, "zz": V1} if word == "some" else {}), ("never", {}),
                ("never" if word == "some" else "some", shown), (shown, word), ("others", shown), (1, shown)]
            for fate in wrong:
                if fate != ("some", {}) or {} not in those:
                    self.assertIs(is_fates(registry, roots, {**found, pair: fate}), False, repr(fate))
            less = {key: found[key] for key in found if key != pair}
            self.assertIs(is_fates(registry, roots, less), False)
            self.assertIs(is_fates(registry, roots, {**less, (kit, (9, 9, 9)): found[pair]}), False)
            self.assertIs(is_fates(registry, roots, {**less, ("zz", state): found[pair]}), False)
            if state[:1] == (1,):
                self.assertIs(is_fates(registry, roots, {**less, (kit, (True,) + state[1:]): found[pair]}), False)
            self.assertIs(is_fates(registry, roots, {**found, ("zz", ()): ("some", {})}), False)
            if word == "some" and state:
                loose = {**shown, kit: (bool(state[0]),) + state[1:]}
                if loose[kit] == state:
                    self.assertIs(is_fates(registry, roots, {**found, pair: (word, loose)}), False)
            unsound = [chosen for chosen in plain_sets(self.kits_of(registry))
                       if chosen.get(kit, ()) == state and chosen not in sound]
            for chosen in unsound[:2]:
                self.assertIs(is_fates(registry, roots, {**found, pair: ("some", chosen)}), False)
        self.assertIs(is_fates(registry, roots, dict(reversed(found.items()))), True)
        self.assertIs(is_fates(registry, roots, {
            pair: (word, tuple(told) if word == "never" else told) for pair, (word, told) in found.items()}), True)

    def kits_of(self, registry):
        """The kits of a registry with their versions."""
        return {kit: {version: EMPTY for version in registry.versions(kit)} for kit in registry.kits}

    def test_any_values(self):
        registry = Registry(APP)
        good = fates(registry=registry, roots={})
        self.assertIs(is_fates(registry=registry, roots={}, value=good), True)
        for value in any_values():
            self.assertIs(is_fates(registry, {}, value), False)
            self.assertIs(is_fates(registry, {}, {**good, ("app", ()): value}), False)
            self.assertIs(is_fates(registry, {}, {**good, ("app", ()): ("some", value)}), value == {})
            self.assertIs(is_fates(registry, {}, {**good, ("app", ()): ("never", value)}), False)

    def test_sure_states(self):
        many = 0
        for _, kits, roots, _ in cases(86, 150):
            registry, sound = Registry(kits), plain_sound(kits, roots)
            if not sound:
                self.refuses(NoneSound, sure_states, registry, roots)
                continue
            lots = {kit: {chosen.get(kit, ()) for chosen in sound} for kit in sorted(kits)}
            wanted = {kit: min(states) for kit, states in lots.items() if len(states) == 1}
            self.same(self.answers_anew(sure_states, registry, roots), wanted)
            many += len(wanted)
        self.assertGreater(many, 50)
        self.same(sure_states(registry=Registry(APP), roots={"app": HIGH}), {"app": V2, "lib": V2})
        self.refuses(NoneSound, sure_states, Registry(APP), {"app": NONE})


class Promise35(Case):
    def as_good(self, kits, one, other):
        """Whether one set has at each kit the same state as the other or a better one."""
        ranked = sorted(kits)
        return all(left <= right for left, right in zip(worth(kits, ranked, one), worth(kits, ranked, other)))

    def test_unbeaten(self):
        beaten = 0
        drawn = [(kits, roots) for _, kits, roots, _ in cases(87, 150)]
        for kits, roots in drawn + [(kits, roots) for kits, roots, _ in tense_cases(90, 60)]:
            registry, sound = Registry(kits), plain_sound(kits, roots)
            best = [chosen for chosen in sound
                    if not any(other != chosen and self.as_good(kits, other, chosen) for other in sound)]
            self.same(self.answers_anew(unbeaten, registry, roots), best)
            for chosen in plain_sets(kits):
                if chosen not in sound:
                    self.refuses(NotSound, beats, registry, roots, chosen)
                elif chosen in best:
                    self.same(beats(registry, roots, chosen), None)
                else:
                    first = [other for other in best if self.as_good(kits, other, chosen)][0]
                    self.same(self.answers_anew(beats, registry, roots, chosen), first)
                    beaten += 1
            installs = plain_installs(kits, roots)
            self.assertTrue(all(chosen in installs for chosen in best))
        self.assertGreater(beaten, 100)

    def test_best_for(self):
        several = 0
        drawn = [(kits, roots) for _, kits, roots, _ in cases(88, 100)]
        for kits, roots in drawn + [(kits, roots) for kits, roots, _ in tense_cases(91, 60)]:
            registry, sound = Registry(kits), plain_sound(kits, roots)
            orders = {}
            for ranked in itertools.permutations(sorted(kits)) if sound else []:
                line = plain_line(kits, in_order(kits, roots, ranked)[0])
                orders[line] = min(ranked, orders.get(line, ranked))
            wanted = [({kit: state for kit, state in zip(sorted(kits), line) if state}, orders[line])
                      for line in sorted(orders)]
            self.same(self.answers_anew(best_for, registry, roots), wanted)
            self.assertTrue(all(chosen in unbeaten(registry, roots) for chosen, _ in wanted))
            several += len(wanted) > 1
        self.assertGreater(several, 5)

    def test_by_hand(self):
        kits = {"a": {V1: ({"b": HIGH}, {}, ()), V2: ({"b": LOW}, {}, ())}, "b": {V1: EMPTY, V2: EMPTY}}
        registry, roots = Registry(kits), {"a": ALL}
        one, other = {"a": V2, "b": V1}, {"a": V1, "b": V2}
        self.same(unbeaten(registry=registry, roots=roots), [other, one])
        self.same(best_for(registry=registry, roots=roots), [(other, ("b", "a")), (one, ("a", "b"))])
        self.same(beats(registry=registry, roots=roots, chosen=one), None)
        self.same(beats(registry, {}, one), {})
        self.same(best_for(registry, {"a": NONE}), [])
        self.same(unbeaten(registry, {"a": NONE}), [])

    def test_unbeaten_and_best_for_none(self):
        one, two = Range([(V1, (1, 0, 1))]), Range([(V2, (2, 0, 1))])
        kits = {kit: {V1: EMPTY, V2: ({other: two for other in "abc" if other != kit}, {}, ()),
                      V3: ({other: one for other in "abc" if other != kit}, {}, ())} for kit in "abc"}
        registry, roots = Registry(kits), {kit: ALL for kit in kits}
        first, second, third = ({**{kit: V1 for kit in "abc"}, best: V3} for best in "abc")
        middle = {kit: V2 for kit in "abc"}
        self.same(unbeaten(registry, roots), [third, second, middle, first])
        self.same(best_for(registry, roots), [
            (third, ("c", "a", "b")), (second, ("b", "a", "c")), (first, ("a", "b", "c"))])
        self.same(beats(registry, roots, {kit: V1 for kit in "abc"}), third)

    def test_before_and_behind_a_publish(self):
        for rng, kits, roots, ranked in cases(89, 60):
            registry = Registry(kits)
            kit = rng.choice(ranked)
            if len(kits[kit]) == 4:
                continue
            later = registry.published(kit, (9, 0, 0), ({"zz": ALL}, {}, ()))
            # A version that nothing sound has changes no best set.
            self.same(best_install(later, roots, ranked), best_install(registry, roots, ranked))
            self.same(unbeaten(later, roots), unbeaten(registry, roots))
            self.assertIs(is_best_paper(later, roots, ranked, best_paper(later, roots, ranked)),
                          bool(plain_sound(kits, roots)))
            self.same(unbeaten(later.withdrawn(kit, (9, 0, 0)), roots), unbeaten(registry, roots))


if __name__ == "__main__":
    unittest.main()
