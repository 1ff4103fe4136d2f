"""Promises [44] to [46]: whether the floor list is the least sound set; raising and lowering it."""

import itertools
import random
import unittest

from kitwright.clauses import given_clauses
from kitwright.errors import BadBounds, BadRoots, NoKit, NotFloors, NotRegistry, NoVersion
from kitwright.floors import floor_list, met
from kitwright.raising import (
    bar_chain, bounded, falls, is_least_paper, last_list, least_paper, lower, lowered, raised, rises)
from kitwright.registries import Registry
from kitwright.sets import is_sound
from tests.samples import ALL, APP, EMPTY, HIGH, LOW, V1, V2, V3, Case, any_values, has, plain_installs, plain_sound
from tests.test_floors import (
    FEET, HAND, HAND_ROOTS, all_pairs, cases, floor, plain_chains, plain_closure, plain_first, plain_firsts,
    plain_floor_list, plain_list)
from tests.test_refuting import judged


def rising_kits(rng):
    """Kits that rise: what a later version wants has all that an earlier one wants, with feet that are not lower."""
    names = list("abcd"[:rng.randint(1, 4)])
    kits = {}
    for name in names:
        told, kits[name] = {}, {}
        for version in (V1, V2, V3)[:rng.randint(1, 3)]:
            told = {other: max(foot, rng.choice(FEET[:5])) for other, foot in told.items()}
            for other in names:
                if other not in told and rng.random() < 0.3:
                    told[other] = rng.choice(FEET[:5])
            kits[name][version] = ({other: floor(foot) for other, foot in told.items()}, {}, ())
    return kits


def plain_rises(kits, kit, earlier, later):
    """Whether two versions rise."""
    less, more = kits[kit][earlier][0], kits[kit][later][0]
    return all(other in more and more[other].stretches[0][0] >= less[other].stretches[0][0] for other in less)


def plain_lower(kits, roots):
    """The least pair of a kit that some sound set has not so late as the floor list, and the first such set."""
    found = plain_floor_list(kits, roots)
    for kit, version in (found or {}).items():
        sets = [chosen for chosen in plain_sound(kits, roots) if kit not in chosen or chosen[kit] < version]
        if sets:
            return kit, sets[0]
    return None


def some_bounds(rng, kits):
    """Bounds of versions that are there, and others."""
    lot = rng.sample(sorted(kits), rng.randint(0, min(4, len(kits))))
    return {kit: rng.choice([V1, V1, (1, 0, 1), V2, V3, (0, 0, 0), (9, 9, 9)]) for kit in lot}


def plain_beyond(kits, bounds, pair):
    """Whether a pair is beyond its bound or has a lack."""
    kit, version = pair
    return kit in bounds and version > bounds[kit] or any(
        not plain_first(kits, other, ranged) for other, ranged in kits[kit][version][0].items())


def plain_bounded(kits, bounds):
    """All bounded pairs."""
    return [pair for pair in all_pairs(kits)
            if not any(plain_beyond(kits, bounds, other) for other in plain_closure(kits, [pair]))]


class Promise44(Case):
    def test_rises_and_falls(self):
        seen = {True: 0, False: 0}
        for _, kits, _ in cases(231, 200):
            wanted = [(kit, earlier, later) for kit in sorted(kits)
                      for earlier, later in itertools.combinations(sorted(kits[kit]), 2)
                      if not plain_rises(kits, kit, earlier, later)]
            self.same(self.answers_anew(falls, Registry(kits)), wanted[0] if wanted else None)
            self.assertIs(rises(Registry(kits)), not wanted)
            seen[not wanted] += 1
        self.assertGreater(min(seen.values()), 40)
        self.same(falls(registry=Registry(HAND)), ("b", V1, V2))
        self.assertIs(rises(registry=Registry(HAND)), False)

    def test_of_three_versions(self):
        def made(*wants):
            return Registry({"a": dict(zip((V1, V2, V3), [(told, {}, ()) for told in wants])), "b": {V1: EMPTY}})
        self.same(falls(made({}, {"b": HIGH}, {"b": ALL})), ("a", V2, V3))
        self.same(falls(made({"b": HIGH}, {"b": HIGH}, {"b": ALL})), ("a", V1, V3))
        self.same(falls(made({"b": ALL}, {"c": ALL}, {"b": ALL})), ("a", V1, V2))
        self.same(falls(made({}, {"b": ALL}, {"b": ALL, "q": ALL})), None)

    def test_least_where_it_rises(self):
        rng, there = random.Random(232), 0
        for _ in range(150):
            kits = rising_kits(rng)
            roots = {kit: floor(rng.choice(FEET[:5])) for kit in rng.sample(sorted(kits), rng.randint(1, min(2, len(kits))))}
            registry = Registry(kits)
            self.assertIs(rises(registry), True)
            found = floor_list(registry, roots)
            if found is None:
                self.same(lower(registry, roots), None)
                self.same(least_paper(registry, roots), None)
                continue
            there += 1
            self.same(lower(registry, roots), None)
            self.assertIn(found, plain_installs(kits, roots))
            for chosen in plain_sound(kits, roots):
                self.assertTrue(all(chosen.get(kit, ()) >= version for kit, version in found.items()))
        self.assertGreater(there, 50)

    def test_lower_and_papers(self):
        lowers = papers = 0
        for _, kits, roots in cases(233, 200, most_kits=3):
            registry, chosen = Registry(kits), plain_floor_list(kits, roots)
            wanted = plain_lower(kits, roots)
            self.same(self.answers_anew(lower, registry, roots), wanted)
            paper = self.answers_anew(least_paper, registry, roots)
            self.assertEqual(paper is None, chosen is None or wanted is not None)
            lowers += wanted is not None
            if paper is None:
                self.assertIs(is_least_paper(registry, roots, paper), False)
                self.assertIs(is_least_paper(registry, roots, {}), False)
                continue
            papers += len(paper) > 1
            self.same(list(paper), list(chosen))
            for kit, rows in paper.items():
                states = tuple(version for version in sorted(kits[kit]) if version >= chosen[kit])
                clauses = given_clauses(registry, roots) + [((kit, states),)]
                self.same(judged(kits, clauses, rows)[-1], ())
            self.assertIs(is_least_paper(registry, roots, dict(reversed(paper.items()))), True)
            for kit in paper:
                less = {other: rows for other, rows in paper.items() if other != kit}
                self.assertIs(is_least_paper(registry, roots, less), False)
                for rows in (paper[kit][:-1], [], None, paper[kit] + [("given", 0)]):
                    right = rows and rows[-1] == ("given", 0) and given_clauses(registry, roots)[0] == ()
                    self.assertIs(is_least_paper(registry, roots, {**paper, kit: rows}), bool(right))
            self.assertIs(is_least_paper(registry, roots, {**paper, "zz": [("given", 0)]}), False)
        self.assertGreater(lowers, 5)
        self.assertGreater(papers, 20)

    def test_by_hand(self):
        registry = Registry(HAND)
        self.same(lower(registry=registry, roots=HAND_ROOTS), ("d", {"b": V2, "c": V1}))
        self.same(least_paper(registry=registry, roots=HAND_ROOTS), None)
        self.same(lower(registry, {"b": HIGH}), None)
        paper = least_paper(registry, {"b": HIGH})
        self.same(list(paper), ["b"])
        self.assertIs(is_least_paper(registry=registry, roots={"b": HIGH}, value=paper), True)
        self.same(least_paper(registry, {}), {})
        self.assertIs(is_least_paper(registry, {}, {}), True)
        # Another refutation, with the last clause joined to the root's own one.
        given = given_clauses(registry, {"b": HIGH})
        at = given.index((("b", ((), V1)),))
        rows = [("given", at), ("given", len(given)), ("joined", 0, 1, "b")]
        self.assertIs(is_least_paper(registry, {"b": HIGH}, {"b": rows}), True)
        self.assertIs(is_least_paper(registry, {"b": HIGH}, {"b": tuple(rows)}), True)
        rows[1] = ("given", len(given) + 1)
        self.assertIs(is_least_paper(registry, {"b": HIGH}, {"b": rows}), False)
        self.same(lower(registry, {"b": ALL}), ("d", {"b": V2}))

    def test_no_papers(self):
        registry, roots = Registry(HAND), {"b": HIGH}
        paper = least_paper(registry, roots)
        for value in any_values():
            self.assertIs(is_least_paper(registry, roots, value), False)
            self.assertIs(is_least_paper(registry, roots, {"b": value}), False)
            self.assertIs(is_least_paper(registry, roots, {"b": paper["b"] + [value]}), False)
            self.assertIs(is_least_paper(registry, {"zz": ALL}, value), False)
            self.assertIs(is_least_paper(registry, {}, value), value == {} and isinstance(value, dict))


class Promise45(Case):
    def test_raised(self):
        seen = {True: 0, False: 0}
        for _, kits, roots in cases(234, 200):
            registry, old = Registry(kits), plain_floor_list(kits, roots)
            for kit in kits:
                if old is None or kit not in old:
                    self.refuses(NoKit, raised, registry, roots, kit, kit=kit)
                    continue
                later = [version for version in kits[kit] if version > old[kit]]
                pairs = plain_closure(kits, plain_firsts(kits, roots) | ({(kit, min(later))} if later else set()))
                lacking = any(not plain_first(kits, other, ranged) for name, version in pairs
                              for other, ranged in kits[name][version][0].items())
                wanted = None if not later or lacking else plain_list(kits, pairs)
                found = self.answers_anew(raised, registry, roots, kit)
                self.same(found, wanted)
                seen[found is None] += 1
                if found is not None:
                    self.assertTrue(is_sound(registry, roots, found))
                    self.assertTrue(all(found[other] >= version for other, version in old.items()))
                    self.assertGreater(found[kit], old[kit])
        self.assertGreater(min(seen.values()), 20)

    def test_last_list(self):
        there = 0
        rng = random.Random(235)
        for at, (_, kits, roots) in enumerate(cases(236, 200)):
            if at % 2:
                kits = rising_kits(rng)
                roots = {kit: ranged for kit, ranged in roots.items() if kit in kits}
            registry = Registry(kits)
            found = self.answers_anew(last_list, registry, roots)
            self.same(found, self.plain_last(kits, roots))
            if found is not None:
                there += len(found) > 1
                self.assertTrue(is_sound(registry, roots, found))
                if rises(registry):
                    for chosen in plain_installs(kits, roots):
                        self.assertTrue(all(kit in found and found[kit] >= version for kit, version in chosen.items()))
        self.assertGreater(there, 30)

    def plain_last(self, kits, roots):
        """The set that is come to by the wants of latest versions, None where one of these has none."""
        found, waiting = {}, list(roots.items())
        while waiting:
            kit, ranged = waiting.pop()
            if kit not in kits or not has(ranged, max(kits[kit])):
                return None
            if kit not in found:
                found[kit] = max(kits[kit])
                waiting += kits[kit][found[kit]][0].items()
        return dict(sorted(found.items()))

    def test_by_hand(self):
        registry = Registry(HAND)
        self.same(raised(registry, {"b": ALL}, "b"), {"b": V2, "d": V2})
        self.same(raised(registry=registry, roots=HAND_ROOTS, kit="c"), None)
        self.same(last_list(registry=registry, roots=HAND_ROOTS), {"b": V2, "c": V1})
        self.same(last_list(registry, {}), {})
        self.same(last_list(registry, {"c": ALL, "d": floor(V3)}), None)
        self.same(last_list(registry, {"zz": ALL}), None)
        kits = {"a": {V1: ({"b": HIGH}, {}, ()), V2: ({"b": floor(V3)}, {}, ())}, "b": {V1: EMPTY, V2: EMPTY}}
        self.same(raised(Registry(kits), {"a": ALL}, "a"), None)
        self.same(last_list(Registry(kits), {"a": ALL}), None)
        for value in any_values() + ["zz", "a", ("b",), "d"]:
            if value != "d":
                self.refuses(NoKit, raised, registry, HAND_ROOTS, value, kit=value)
            self.refuses(NoKit, raised, registry, {"zz": ALL}, value, kit=value)
            self.refuses(NoKit, raised, registry, {"b": HIGH}, value, kit=value)


class Promise46(Case):
    def test_bounded_and_bar_chains(self):
        seen = {True: 0, False: 0}
        for rng, kits, _ in cases(237, 200):
            registry, bounds = Registry(kits), some_bounds(rng, kits)
            wanted = plain_bounded(kits, bounds)
            self.same(self.answers_anew(bounded, registry, bounds), tuple(wanted))
            for pair in all_pairs(kits):
                rows = [row for row in plain_chains(kits, [pair]) if plain_beyond(kits, bounds, row[-1])]
                chain = min([(len(row), row) for row in rows], default=(0, None))[1]
                found = self.answers_anew(bar_chain, registry, bounds, *pair)
                self.same(found, chain)
                self.assertEqual(found is None, pair in wanted)
                seen[found is None] += 1
        self.assertGreater(min(seen.values()), 100)

    def test_greatest_lot(self):
        for rng, kits, _ in cases(238, 40, most_kits=3, most_versions=2):
            bounds, pairs = some_bounds(rng, kits), all_pairs(kits)
            if len(pairs) > 6:
                continue
            found = bounded(Registry(kits), bounds)
            for size in range(len(pairs) + 1):
                for lot in itertools.combinations(pairs, size):
                    wants = [kits[kit][version][0] for kit, version in lot]
                    if all(plain_first(kits, kit, ranged) in lot for told in wants for kit, ranged in told.items()):
                        if all(version <= bounds.get(kit, version) for kit, version in lot):
                            self.assertLessEqual(set(lot), set(found))

    def test_lowered_is_best_of_all(self):
        changed = 0
        for rng, kits, roots in cases(239, 120, most_kits=3):
            registry, bounds = Registry(kits), some_bounds(rng, kits)
            found = self.answers_anew(lowered, registry, roots, bounds)
            pairs = plain_bounded(kits, bounds)
            wanted = {}
            for kit in sorted(roots):
                first = plain_first(kits, kit, roots[kit])
                versions = [version for other, version in pairs if other == kit and first and version <= first[1]]
                if versions:
                    wanted[kit] = floor(max(versions))
            self.same(found, wanted)
            changed += 0 < len(wanted) < len(roots)
            self.within(kits, bounds, found)
            # Of all roots within the bounds it has at each kit the latest one.
            choices = []
            for kit in sorted(roots):
                first = plain_first(kits, kit, roots[kit])
                choices.append([None] + [(kit, version) for version in sorted(kits.get(kit, {})) if first and version <= first[1]])
            for row in itertools.product(*choices):
                told = {pair[0]: floor(pair[1]) for pair in row if pair}
                chosen = plain_floor_list(kits, told)
                if chosen is not None and all(version <= bounds.get(kit, version) for kit, version in chosen.items()):
                    self.assertTrue(all(kit in found and ranged.stretches[0][0] <= found[kit].stretches[0][0]
                                        for kit, ranged in told.items()))
        self.assertGreater(changed, 5)

    def within(self, kits, bounds, roots):
        """The floor list is there, and within the bounds."""
        chosen = plain_floor_list(kits, roots)
        self.assertIsNotNone(chosen)
        self.assertTrue(all(version <= bounds.get(kit, version) for kit, version in chosen.items()))

    def test_by_hand(self):
        registry, bounds = Registry(HAND), {"b": V1}
        self.same(bounded(registry=registry, bounds=bounds), (("b", V1), ("d", V2)))
        self.same(lowered(registry=registry, roots=HAND_ROOTS, bounds=bounds), {"b": floor(V1)})
        self.same(bar_chain(registry=registry, bounds=bounds, kit="c", version=V1), (("c", V1), ("b", V2)))
        self.same(bar_chain(registry, bounds, "b", V2), (("b", V2),))
        self.same(bar_chain(registry, bounds, "b", V1), None)
        self.same(bounded(registry, {}), tuple(all_pairs(HAND)))
        self.same(bounded(registry, {"d": V1}), (("b", V2), ("c", V1)))
        self.same(bounded(registry, {"d": (1, 9, 9), "b": (0, 0, 0)}), ())
        self.same(bounded(registry, {"b": (7, 7, 7), "c": (0, 0, 1), "d": V3}), (("b", V1), ("b", V2), ("d", V2)))
        self.same(lowered(registry, {"zz": ALL, "b": HIGH, "d": floor(V3)}, {}), {"b": HIGH})
        self.same(lowered(registry, {"b": HIGH}, bounds), {"b": floor(V1)})
        self.same(lowered(registry, {}, bounds), {})
        self.same(met(registry, lowered(registry, HAND_ROOTS, bounds)), (("b", V1), ("d", V2)))

    def test_four_bounds(self):
        kits = {kit: {V1: EMPTY, V2: EMPTY} for kit in "abcde"}
        bounds = {kit: V1 for kit in "abcd"}
        self.same(bounded(Registry(kits), bounds), tuple(
            (kit, version) for kit in "abcde" for version in (V1, V2) if kit == "e" or version == V1))
        self.refuses(BadBounds, bounded, Registry(kits), {**bounds, "e": V1})

    def test_refused(self):
        good, bad = Registry(HAND), Registry(APP)
        for call, ahead, behind in ((bounded, [], []), (lowered, [HAND_ROOTS], []), (bar_chain, [], ["b", V1])):
            for value in any_values() + [{"b": (True, 0, 0)}, {"zz": V1}, {"b": V1, "zz": V1}, {"b": ()}, {"b": [1, 0, 0]},
                                         {"b": (1, 0)}, {"b": HIGH}, [("b", V1)], {"b": V1, None: V1}, {"b": None}]:
                if value != {} or not isinstance(value, dict):
                    self.refuses(BadBounds, call, good, *ahead, value, *behind)
                self.refuses(NotFloors, call, bad, *ahead, value, *behind)
                if not isinstance(value, Registry):
                    self.refuses(NotRegistry, call, value, *ahead, None, *behind)
        self.refuses(NotFloors, lowered, good, {"b": LOW}, None)
        self.refuses(BadRoots, lowered, bad, None, None)
        for value in any_values():
            self.refuses(NoKit, bar_chain, good, {}, value, None, kit=value)
            if repr(value) != "(1, 0, 0)":
                self.refuses(NoVersion, bar_chain, good, {}, "b", value, version=value)
            self.refuses(BadBounds, bar_chain, good, None, value, value)
        for call, more in ((rises, []), (falls, [])):
            self.refuses(NotFloors, call, bad, *more)
            self.refuses(NotFloors, call, Registry({"b": {V1: ({"c": LOW}, {}, ())}}), *more)
            self.refuses(NotRegistry, call, None, *more)
        for call, more in ((lower, []), (least_paper, []), (is_least_paper, [None]), (raised, [None]), (last_list, [])):
            self.refuses(NotFloors, call, bad, {}, *more)
            self.refuses(NotFloors, call, good, {"b": LOW}, *more)
            self.refuses(BadRoots, call, bad, None, *more)
            self.refuses(NotRegistry, call, None, None, *more)


if __name__ == "__main__":
    unittest.main()
