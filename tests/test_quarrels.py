"""Promises [36] and [37], and meeting_lots of [38]: demands, quarrels and gifts."""

import itertools
import random
import unittest

from kitwright.clauses import given_clauses
from kitwright.errors import BadDemands, BadLots, BadNumber, BadRoots, BadSet, NotRegistry
from kitwright.quarrels import demand_clauses, demands_of, gifts, meeting_lots, met_by, quarrels
from kitwright.ranges import Range
from kitwright.registries import Registry
from kitwright.sets import is_sound
from tests.samples import (
    ALL, APP, EMPTY, HIGH, LOW, NONE, V1, V2, Case, any_values, has, plain_barred, plain_sets, plain_sound, plain_states,
    some_kits, some_range, some_roots, tense_kits)


def some_demands(rng, kits, most):
    """Demands of both words, for kits that are there and others, some twice."""
    found = []
    for _ in range(rng.randint(0, most)):
        if found and rng.random() < 0.15:
            found.append(rng.choice(found))
        else:
            ranged = rng.choice([ALL, LOW, HIGH, some_range(rng)])
            found.append((rng.choice(["want", "want", "bar"]), rng.choice(sorted(kits) * 3 + ["z"]), ranged))
    return found


def cases(seed, many, most=5):
    """Triples of a generator, kits and demands."""
    rng = random.Random(seed)
    for at in range(many):
        kits = tense_kits(rng) if at % 2 else some_kits(rng)
        yield rng, kits, some_demands(rng, kits, 7 if at % 10 == 0 else most)


def meets(chosen, demand):
    """Whether a set meets a demand, by the words of [36]."""
    word, kit, ranged = demand
    inside = kit in chosen and has(ranged, chosen[kit])
    return inside if word == "want" else not inside


def all_lots(many):
    """All lots, shorter first, then ascending."""
    return [lot for size in range(many + 1) for lot in itertools.combinations(range(many), size)]


def least(lots):
    """Those of the lots that have no other one within."""
    return [lot for lot in lots if not any(set(other) < set(lot) for other in lots)]


class Promise36(Case):
    def test_met_and_clauses(self):
        none = 0
        for _, kits, demands in cases(101, 200):
            registry = Registry(kits)
            clauses = self.answers_anew(demand_clauses, registry, demands)
            self.assertEqual(len(clauses), len(demands))
            for demand, clause in zip(demands, clauses):
                word, kit, ranged = demand
                inside = [version for version in sorted(kits.get(kit, {})) if has(ranged, version)]
                if word == "want":
                    rest = tuple(state for state in plain_states(kits, kit) if state not in inside) if inside else ()
                    self.same(clause, ((kit, rest),) if inside else ())
                else:
                    self.same(clause, ((kit, tuple(inside)),) if inside else None)
                none += clause is None
            for chosen in plain_sets(kits):
                met = tuple(index for index, demand in enumerate(demands) if meets(chosen, demand))
                self.same(met_by(registry, tuple(demands), chosen), met)
                for index, clause in enumerate(clauses):
                    self.assertEqual(index in met, clause is None or not plain_barred(clause, chosen))
        self.assertGreater(none, 5)

    def test_by_hand(self):
        registry = Registry(APP)
        demands = [("want", "app", ALL), ("bar", "app", LOW), ("want", "zz", ALL), ("bar", "zz", ALL), ("bar", "lib", NONE),
                   ("want", "lib", NONE), ("want", "lib", HIGH)]
        self.same(met_by(registry=registry, demands=demands, chosen={"app": V2, "lib": V1}), (0, 1, 3, 4))
        self.same(met_by(registry, demands, {}), (1, 3, 4))
        self.same(demand_clauses(registry=registry, demands=demands), [
            (("app", ((),)),), (("app", (V1,)),), (), None, None, (), (("lib", ((), V1)),)])
        self.same(met_by(registry, [], {}), ())
        self.same(demand_clauses(registry, []), [])

    def test_demands_of_roots(self):
        for rng, kits, _ in cases(102, 60):
            registry, roots = Registry(kits), some_roots(rng, kits)
            demands = self.answers_anew(demands_of, dict(reversed(roots.items())))
            self.same(demands, [("want", kit, roots[kit]) for kit in sorted(roots)])
            self.assertEqual(sorted(set(given_clauses(registry, {}) + demand_clauses(registry, demands))),
                             given_clauses(registry, roots))
            for chosen in plain_sets(kits):
                met = len(met_by(registry, demands, chosen)) == len(demands)
                self.assertEqual(is_sound(registry, roots, chosen), is_sound(registry, {}, chosen) and met)
        self.same(demands_of(roots={}), [])

    def test_no_demands(self):
        registry, good = Registry(APP), ("want", "app", ALL)
        for call, more in ((met_by, [None]), (demand_clauses, []), (quarrels, []), (gifts, [])):
            for value in any_values():
                at = None if not isinstance(value, (list, tuple)) else 0
                if value != [] and value != ():
                    self.refuses(BadDemands, call, registry, value, *more, at=at)
                self.refuses(BadDemands, call, registry, [good, value, None], *more, at=1)
                if not isinstance(value, Registry):
                    self.refuses(NotRegistry, call, value, None, *more)
                if value not in ("want", "bar"):
                    self.refuses(BadDemands, call, registry, [good, good, (value, "app", ALL)], *more, at=2)
                if not (isinstance(value, str) and value in ("a", "kit", "none")):
                    self.refuses(BadDemands, call, registry, (("bar", value, ALL),), *more, at=0)
                if not isinstance(value, Range):
                    self.refuses(BadDemands, call, registry, [("bar", "app", value)], *more, at=0)
            for wrong in [["want", "app", ALL], ("want", "app"), ("want", "app", ALL, 1), ("Want", "app", ALL),
                          ("clash", "app", ALL)]:
                self.refuses(BadDemands, call, registry, [wrong], *more, at=0)
            self.refuses(BadDemands, call, registry, [good] * 8, *more, at=None)
            self.refuses(BadDemands, call, registry, [None] * 8, *more, at=None)
        for value in any_values():
            if value != {}:
                self.refuses(BadSet, met_by, registry, [good], value)
            if not isinstance(value, dict) or value:
                if not (isinstance(value, dict) and all(isinstance(one, Range) for one in value.values())):
                    self.refuses(BadRoots, demands_of, value)
        self.refuses(BadRoots, demands_of, {kit: ALL for kit in "abcde"})


class Promise37(Case):
    def test_all_lots(self):
        longer = 0
        for _, kits, demands in cases(103, 250):
            registry, closed, many = Registry(kits), plain_sound(kits, {}), len(demands)
            possible = [lot for lot in all_lots(many)
                        if any(all(meets(chosen, demands[index]) for index in lot) for chosen in closed)]
            wanted = least([lot for lot in all_lots(many) if lot not in possible])
            self.same(self.answers_anew(quarrels, registry, demands), wanted)
            enough = [lot for lot in all_lots(many)
                      if tuple(index for index in range(many) if index not in lot) in possible]
            found = self.answers_anew(gifts, registry, tuple(demands))
            self.same(found, least(enough))
            self.assertTrue(found)
            self.assertNotIn((), wanted)
            self.assertEqual(found == [()], not wanted)
            self.same(meeting_lots(wanted, many), found)
            self.same(meeting_lots(found, many), wanted)
            for lot in all_lots(many):
                self.assertEqual(lot not in possible, any(set(one) <= set(lot) for one in wanted))
                self.assertEqual(lot in enough, any(set(one) <= set(lot) for one in found))
            longer += any(len(lot) > 1 for lot in wanted)
        self.assertGreater(longer, 30)

    def test_worked_by_hand(self):
        registry = Registry({"b": {V1: ({"c": LOW}, {}, ())}, "c": {V1: EMPTY, V2: EMPTY}, "d": {V1: ({"c": HIGH}, {}, ())}})
        demands = [("want", "b", ALL), ("want", "d", ALL), ("bar", "c", LOW)]
        self.same(quarrels(registry=registry, demands=demands), [(0, 1), (0, 2)])
        self.same(gifts(registry=registry, demands=demands), [(0,), (1, 2)])
        self.same(gifts(registry, demands[1:]), [()])
        self.same(quarrels(registry, demands[1:]), [])
        self.same(quarrels(registry, []), [])
        self.same(gifts(registry, []), [()])

    def test_twice_and_against(self):
        registry = Registry(APP)
        want, bar = ("want", "app", ALL), ("bar", "app", ALL)
        self.same(quarrels(registry, [want, want, bar]), [(0, 2), (1, 2)])
        self.same(gifts(registry, [want, want, bar]), [(2,), (0, 1)])
        self.same(quarrels(registry, [("want", "zz", ALL), want]), [(0,)])
        self.same(gifts(registry, [("want", "zz", ALL), want]), [(0,)])

    def test_seven(self):
        kits = {kit: {V1: ({}, {other: ALL for other in "abc" if other != kit}, ())} for kit in "abc"}
        demands = [("want", kit, ALL) for kit in "abcabca"]
        self.same(quarrels(Registry(kits), demands), [
            (i, j) for i in range(7) for j in range(i + 1, 7) if (i - j) % 3])
        self.same(gifts(Registry(kits), demands), [(1, 2, 4, 5), (0, 1, 3, 4, 6), (0, 2, 3, 5, 6)])

    def test_before_and_behind_a_publish(self):
        for rng, kits, demands in cases(104, 60):
            registry = Registry(kits)
            kit = rng.choice(sorted(kits))
            if len(kits[kit]) == 4:
                continue
            later = registry.published(kit, (9, 0, 0), EMPTY)
            wants = [demand for demand in demands if demand[0] == "want"]
            # Whoever publishes loses no set, so what was possible stays so.
            self.assertTrue(all(any(set(one) <= set(lot) for one in quarrels(registry, wants))
                                for lot in quarrels(later, wants)))
            self.same(quarrels(later.withdrawn(kit, (9, 0, 0)), demands), quarrels(registry, demands))


class MeetingLots(Case):
    def test_all(self):
        rng = random.Random(105)
        for _ in range(300):
            many = rng.randint(0, 7)
            lots = [tuple(sorted(rng.sample(range(many), rng.randint(0 if rng.random() < 0.1 else min(1, many), many))))
                    for _ in range(rng.randint(0, 5))]
            meeting = [lot for lot in all_lots(many) if all(set(lot) & set(one) for one in lots)]
            found = self.answers_anew(meeting_lots, lots, many)
            self.same(found, least(meeting))
            self.same(meeting_lots(meeting_lots(found, many), many), found)
            self.same(meeting_lots(found, many), sorted(least(list(set(lots))), key=self.place))

    def place(self, lot):
        """Where a lot stands: by length, then ascending."""
        return len(lot), lot

    def test_by_hand(self):
        self.same(meeting_lots([], 0), [()])
        self.same(meeting_lots([], 7), [()])
        self.same(meeting_lots([()], 3), [])
        self.same(meeting_lots([(0,), ()], 3), [])
        self.same(meeting_lots(lots=((0, 1), (1, 2)), many=3), [(1,), (0, 2)])
        self.same(meeting_lots([(6,)], 7), [(6,)])
        self.same(meeting_lots([(0, 1)] * 40, 2), [(0,), (1,)])
        self.same(len(meeting_lots(list(itertools.combinations(range(7), 4)), 7)), 35)

    def test_refused(self):
        for value in any_values():
            if repr(value) not in ("0", "1", "3"):
                self.refuses(BadNumber, meeting_lots, None, value)
            if not isinstance(value, (list, tuple)):
                self.refuses(BadLots, meeting_lots, value, 3, at=None)
            if value != ():
                self.refuses(BadLots, meeting_lots, [(0,), value], 0, at=0)
                if repr(value) != "(0,)":
                    self.refuses(BadLots, meeting_lots, [(0,), value, None], 3, at=1)
        for number in (-1, 8, True, 10 ** 99, None, "3"):
            self.refuses(BadNumber, meeting_lots, [(9,)], number)
        for wrong in [(3,), (1, 0), (0, 0), [0], (-1,), (True,), (False, 1), (0, 1, 2, 3), ("0",), ((0,),), 0]:
            self.refuses(BadLots, meeting_lots, [(0, 1), (), wrong], 3, at=2)
        self.refuses(BadLots, meeting_lots, [(0,)] * 41, 3, at=None)
        self.refuses(BadLots, meeting_lots, [None] * 41, 3, at=None)
        self.same(meeting_lots([(0,)] * 40, 3), [(0,)])


if __name__ == "__main__":
    unittest.main()
