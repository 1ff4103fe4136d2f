"""Promises [26] to [28]: clauses, given ones, joined ones."""

import random
import unittest

from kitwright.clauses import covers, given_clauses, is_clause, joined, keeps
from kitwright.errors import BadClause, NoKit, NotShared
from kitwright.ranges import Range
from kitwright.registries import Registry
from tests.samples import (
    ALL, APP, EMPTY, HIGH, LOW, NONE, V1, V2, V3, Case, all_clauses, any_values, has, plain_barred, plain_faults,
    plain_sets, plain_states, some_clause, some_kits, some_roots)


def bars(kits, clause):
    """The sets that a clause bars."""
    return [chosen for chosen in plain_sets(kits) if plain_barred(clause, chosen)]


def plain_given(kits, roots):
    """The given clauses by the words of [27]."""
    found = set()

    def others(kit, ranged):
        if kit not in kits:
            return None
        states = [state for state in plain_states(kits, kit) if state == () or not has(ranged, state)]
        return None if states == plain_states(kits, kit) else (kit, tuple(states))

    for kit, ranged in roots.items():
        pair = others(kit, ranged)
        found.add((pair,) if pair else ())
    for kit in kits:
        for version, (wants, clashes, _) in kits[kit].items():
            here = (kit, (version,))
            for other, ranged in wants.items():
                if other == kit:
                    if not has(ranged, version):
                        found.add((here,))
                else:
                    pair = others(other, ranged)
                    found.add(tuple(sorted([here, pair])) if pair else (here,))
            for other, ranged in clashes.items():
                versions = tuple(one for one in sorted(kits.get(other, {})) if has(ranged, one))
                if other == kit:
                    if has(ranged, version):
                        found.add((here,))
                elif versions:
                    found.add(tuple(sorted([here, (other, versions)])))
    return sorted(found)


class Promise26(Case):
    def test_all_clauses(self):
        rng = random.Random(61)
        for _ in range(20):
            kits = some_kits(rng, most_versions=2)
            for clause in all_clauses(kits)[:200]:
                self.assertIs(is_clause(Registry(kits), clause), True)

    def test_no_clauses(self):
        registry = Registry(APP)
        self.assertIs(is_clause(registry, (("app", ((), V1)), ("lib", (V2,)))), True)
        self.assertIs(is_clause(registry=registry, value=()), True)
        for value in [[], [("app", (V1,))], (["app", (V1,)],), (("app", [V1]),), (("app", ()),), (("app", ((), V1, V2)),),
                      (("app", (V2, V1)),), (("app", (V1, V1)),), (("app", (V3,)),), (("lib", (V1,)), ("app", (V1,))),
                      (("app", (V1,)), ("app", (V2,))), (("zz", (V1,)),), (("app", (V1,), 1),), (("app",),), ("app", (V1,)),
                      (("app", ((True, 0, 0),)),), (("app", V1),), (("app", ([],)),), ((("app",), (V1,)),), ((),), None,
                      (("app", (None,)),), (("app", ((), V1, V3)),), (("app", {V1: 1}),), {"app": (V1,)}]:
            self.assertIs(is_clause(registry, value), False, repr(value))
        for value in any_values():
            self.assertIs(is_clause(registry, value), value == () and isinstance(value, tuple), repr(value))
            self.assertIs(is_clause(registry, (value,)), False, repr(value))
            self.assertIs(is_clause(registry, (("app", value),)), repr(value) in ("((),)", "((1, 0, 0), (2, 0, 0))"))
            self.assertIs(is_clause(registry, (("app", (value,)),)), repr(value) in ("()", "(1, 0, 0)"), repr(value))
            self.assertIs(is_clause(registry, ((value, (V1,)),)), False, repr(value))

    def test_keeps_and_covers(self):
        rng = random.Random(62)
        for _ in range(120):
            kits = some_kits(rng)
            registry, one, other = Registry(kits), some_clause(rng, kits), some_clause(rng, kits)
            barred = bars(kits, one)
            for chosen in plain_sets(kits):
                self.assertIs(keeps(registry, chosen, one), chosen not in barred)
            within = all(chosen in barred for chosen in bars(kits, other))
            self.assertIs(covers(registry, one, other), within)
            self.assertIs(covers(registry, one, one), True)
            self.assertIs(covers(registry, (), one), True)
            self.assertIs(covers(registry, one, ()), one == ())
        registry = Registry(APP)
        one, other = (("app", (V1, V2)),), (("app", (V1,)), ("lib", ((),)))
        self.assertIs(covers(registry=registry, one=one, other=other), True)
        self.assertIs(covers(registry, other, one), False)
        self.assertIs(keeps(registry=registry, chosen={"app": V1}, clause=other), False)
        self.assertIs(keeps(registry, {}, ()), False)

    def test_refused(self):
        registry = Registry(APP)
        for value in any_values():
            if value != ():
                self.refuses(BadClause, keeps, registry, {}, value)
                self.refuses(BadClause, covers, registry, value, ())
                self.refuses(BadClause, covers, registry, (), value)


class Promise27(Case):
    def test_given(self):
        rng = random.Random(63)
        for at in range(200):
            kits = some_kits(rng, **({} if at % 10 else {"most_kits": 5, "most_versions": 2}))
            roots = some_roots(rng, kits)
            registry = Registry(kits)
            found = self.answers_anew(given_clauses, registry, roots)
            self.same(found, plain_given(kits, roots))
            self.assertTrue(all(is_clause(registry, clause) for clause in found))
            for chosen in plain_sets(kits):
                self.assertEqual(all(not plain_barred(clause, chosen) for clause in found),
                                 not plain_faults(kits, roots, chosen))

    def test_by_hand(self):
        kits = {"a": {V1: ({"a": HIGH, "b": LOW, "z": ALL}, {"a": HIGH, "b": LOW, "z": ALL}, ("b",)),
                      V2: ({"a": HIGH}, {"a": HIGH, "b": NONE}, ())}, "b": {V1: ({"a": NONE}, {}, ()), V2: EMPTY}}
        self.same(given_clauses(registry=Registry(kits), roots={}), sorted([
            (("a", (V1,)),), (("a", (V1,)), ("b", ((), V2))), (("a", (V1,)), ("b", (V1,))), (("a", (V2,)),),
            (("b", (V1,)),)]))
        self.same(given_clauses(Registry({"a": {V1: EMPTY, V2: EMPTY}}), {"a": LOW}), [(("a", ((), V2)),)])
        self.same(given_clauses(Registry({"a": {V1: EMPTY}}), {"a": ALL}), [(("a", ((),)),)])
        self.same(given_clauses(Registry({"a": {V1: EMPTY}}), {"a": NONE, "z": ALL}), [()])
        self.same(given_clauses(Registry({"a": {V1: EMPTY}}), {}), [])

    def test_example(self):
        first = Range([(V1, None)])
        registry = Registry({"a": {V1: EMPTY, V2: ({"b": first}, {}, ())}, "b": {V1: ({}, {"a": HIGH}, ())}})
        given = given_clauses(registry, {"a": first})
        self.same(given, [(("a", ((),)),), (("a", (V2,)), ("b", ((),))), (("a", (V2,)), ("b", (V1,)))])
        self.same(joined(registry, given[1], given[2], "b"), (("a", (V2,)),))


class Promise28(Case):
    def plain_joined(self, kits, one, other, kit):
        """The joined clause by the words of [28]."""
        told, more = dict(one), dict(other)
        found = []
        for name in sorted(set(told) | set(more)):
            if name == kit:
                states = sorted(set(told[name]) | set(more[name]))
            elif name in told and name in more:
                states = sorted(set(told[name]) & set(more[name]))
            else:
                states = sorted(told.get(name) or more.get(name))
            if not states:
                return None
            if states != plain_states(kits, name):
                found.append((name, tuple(states)))
        return tuple(found)

    def test_joined(self):
        rng = random.Random(64)
        many = {None: 0, (): 0}
        for _ in range(600):
            kits = some_kits(rng)
            registry, one, other = Registry(kits), some_clause(rng, kits), some_clause(rng, kits)
            for kit in kits:
                if kit not in dict(one) or kit not in dict(other):
                    self.refuses(NotShared, joined, registry, one, other, kit)
                    continue
                found = joined(registry, one, other, kit)
                self.same(found, self.plain_joined(kits, one, other, kit))
                self.same(joined(registry, one=other, other=one, kit=kit), found)
                many[found] = many.get(found, 0) + 1
                if found is not None:
                    self.assertTrue(is_clause(registry, found))
                    barred = bars(kits, one) + bars(kits, other)
                    self.assertTrue(all(chosen in barred for chosen in bars(kits, found)))
        self.assertTrue(many[None] > 10 and many[()] > 2)

    def test_refused(self):
        registry, clause = Registry(APP), (("app", (V1,)),)
        for value in any_values():
            if value != ():
                self.refuses(BadClause, joined, registry, value, clause, "app")
                self.refuses(BadClause, joined, registry, clause, value, "app")
            self.refuses(NoKit, joined, registry, clause, clause, value, kit=value)
        self.refuses(NoKit, joined, registry, (), (), "zz", kit="zz")
        self.refuses(NotShared, joined, registry, clause, (), "app")
        self.refuses(NotShared, joined, registry, (), clause, "app")
        self.refuses(NotShared, joined, registry, clause, clause, "lib")
        self.same(joined(registry, clause, clause, "app"), clause)


if __name__ == "__main__":
    unittest.main()
