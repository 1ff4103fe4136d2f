"""Promises [29] to [31]: derivations, refutations, the strongest of what follows, needless clauses."""

import random
import unittest

from kitwright.clauses import given_clauses, is_clause
from kitwright.errors import BadClause, BadClauses, BadRows, TooMany
from kitwright.refuting import (
    derivation, is_derivation, is_refutation, needless, refutation, row_clauses, stray, strongest)
from kitwright.registries import Registry
from kitwright.sets import sound_sets
from tests.samples import (
    ALL, APP, EMPTY, V1, V2, V3, Case, all_clauses, any_values, plain_barred, plain_line, plain_lines, plain_sets, plain_states,
    some_clause, some_kits, some_manifest, some_roots)


def cases(seed, many, most_clauses=8, **told):
    """Triples of a generator, kits and clauses in any order, some twice."""
    rng = random.Random(seed)
    for _ in range(many):
        kits = some_kits(rng, **told)
        clauses = [some_clause(rng, kits) for _ in range(rng.randint(0, most_clauses))]
        if rng.random() < 0.8:
            clauses = [clause for clause in clauses if clause]
        if rng.random() < 0.4:
            clauses += given_clauses(Registry(kits), some_roots(rng, kits))
        clauses += rng.sample(clauses, len(clauses) // 4)
        rng.shuffle(clauses)
        yield rng, kits, clauses


def kept(kits, clauses):
    """The sets that keep all clauses."""
    return [chosen for chosen in plain_sets(kits) if not any(plain_barred(clause, chosen) for clause in clauses)]


def follows(kits, clauses, clause):
    """Whether all sets that keep the clauses keep the one."""
    return not any(plain_barred(clause, chosen) for chosen in kept(kits, clauses))


def judged(kits, clauses, rows):
    """The clauses of the rows, by the test's own look."""
    found = []
    for row in rows:
        assert type(row) is tuple
        if row[0] == "given":
            found.append(clauses[row[1]])
            continue
        word, one, other, kit = row
        assert word == "joined" and 0 <= one < len(found) and 0 <= other < len(found)
        told, more = dict(found[one]), dict(found[other])
        states = {name: set(told.get(name, more.get(name))) & set(more.get(name, told.get(name)))
                  for name in told.keys() | more.keys()}
        states[kit] = set(told[kit]) | set(more[kit])
        assert all(states.values())
        found.append(tuple(sorted((name, tuple(sorted(lot))) for name, lot in states.items()
                                  if len(lot) <= len(kits[name]))))
    return found


class Promise29(Case):
    def test_derivations(self):
        shown = 0
        for rng, kits, clauses in cases(71, 200):
            registry = Registry(kits)
            for _ in range(6):
                clause = some_clause(rng, kits)
                rows = derivation(registry, clauses, clause)
                outside = [chosen for chosen in kept(kits, clauses) if plain_barred(clause, chosen)]
                self.same(self.answers_anew(stray, registry, clauses, clause), outside[0] if outside else None)
                self.assertEqual(rows is None, bool(outside))
                if rows is None:
                    continue
                shown += 1
                told = judged(kits, clauses, rows)
                self.same(row_clauses(registry, clauses, rows), told)
                used = {at for row in rows if row[0] == "joined" for at in row[1:3]}
                self.assertEqual(used, set(range(len(rows) - 1)))
                barred = [chosen for chosen in plain_sets(kits) if plain_barred(clause, chosen)]
                self.assertTrue(all(plain_barred(told[-1], chosen) for chosen in barred))
                self.assertTrue(all(follows(kits, clauses, one) for one in told))
                self.assertIs(is_derivation(registry, clauses, clause, rows), True)
                self.assertIs(is_derivation(registry, tuple(clauses), clause, tuple(rows)), True)
        self.assertGreater(shown, 300)

    def test_all_clauses_of_small_registries(self):
        for _, kits, clauses in cases(72, 25, most_kits=2, most_versions=2):
            registry = Registry(kits)
            for clause in all_clauses(kits):
                rows = self.answers_anew(derivation, registry, clauses, clause)
                self.assertEqual(rows is not None, follows(kits, clauses, clause))
                self.assertIs(is_derivation(registry, clauses, clause, rows), rows is not None)

    def test_refutations(self):
        many = 0
        for _, kits, clauses in cases(73, 200, most_clauses=14):
            registry = Registry(kits)
            rows = self.answers_anew(refutation, registry, clauses)
            self.assertEqual(rows is None, bool(kept(kits, clauses)))
            self.assertIs(is_refutation(registry, clauses, rows), rows is not None)
            if rows is not None:
                many += 1
                self.same(judged(kits, clauses, rows)[-1], ())
                self.assertIs(is_refutation(registry, clauses, rows[:-1]), () in clauses and () in
                              judged(kits, clauses, rows[:-1])[-1:])
        self.assertGreater(many, 30)

    def test_is_derivation_by_the_last_row(self):
        for rng, kits, clauses in cases(74, 60):
            registry = Registry(kits)
            rows = [("given", at) for at in range(len(clauses))]
            for _ in range(6):
                if len(rows) > 1:
                    one, other = rng.randrange(len(rows)), rng.randrange(len(rows))
                    row = ("joined", one, other, rng.choice(sorted(kits)))
                    told = judged(kits, clauses, rows)
                    if row[3] in dict(told[one]) and row[3] in dict(told[other]):
                        try:
                            judged(kits, clauses, rows + [row])
                        except AssertionError:
                            self.refuses(BadRows, row_clauses, registry, clauses, rows + [row], at=len(rows))
                            self.assertIs(is_derivation(registry, clauses, told[-1], rows + [row]), False)
                            continue
                        rows.append(row)
                    else:
                        self.refuses(BadRows, row_clauses, registry, clauses, rows + [row, None], at=len(rows))
            if rows:
                last = judged(kits, clauses, rows)[-1]
                self.same(row_clauses(registry=registry, clauses=clauses, value=rows), judged(kits, clauses, rows))
                for clause in [some_clause(rng, kits) for _ in range(10)] + [last]:
                    covered = all(plain_barred(last, chosen) for chosen in plain_sets(kits)
                                  if plain_barred(clause, chosen))
                    self.assertIs(is_derivation(registry, clauses, clause, rows), covered)
                    self.assertIs(is_refutation(registry, clauses, rows), last == ())

    def test_no_rows(self):
        registry = Registry(APP)
        clauses = [(("app", (V1,)), ("lib", (V1,))), (("app", (V1,)), ("lib", ((), V2))), (("app", (V2,)),)]
        good = [("given", 0), ("given", 1), ("joined", 0, 1, "lib"), ("joined", 2, 2, "app")]
        self.same(row_clauses(registry, clauses, good), clauses[:2] + [(("app", (V1,)),)] * 2)
        for row in [("given", 3), ("given", -1), ("given", True), ("given",), ("given", 0, 0), ["given", 0], ("Given", 0),
                    ("joined", 0, 1), ["joined", 0, 1, "lib"], ("joined", 0, 4, "lib"), ("joined", 4, 0, "lib"),
                    ("joined", -1, 0, "lib"), ("joined", 0, False, "lib"), ("joined", True, 0, "lib"),
                    ("joined", 0, 1, "app", 0), ("join", 0, 1, "lib"), ("given", 0, 1, "lib"), ("joined", 0), ("joined", 0, 1, "zz"), ("joined", 2, 0, "lib"), ("joined", 0, 2, "lib"),
                    ("joined", 0, 1, "app"), ("joined", 0, 1, 1), ("joined", "0", 1, "lib"), ("given", "0"),
                    ("joined", 0, 1, ["lib"]), ("joined", None, None, None), (0, "given"), ("given", 10 ** 99)]:
            if row == ("joined", 0, 1, "app"):
                # Both tell lib, and no state of it in common.
                self.refuses(BadRows, row_clauses, registry, clauses, good + [row], at=4)
                continue
            self.refuses(BadRows, row_clauses, registry, clauses, good + [row, None], at=4)
            self.assertIs(is_derivation(registry, clauses, (("app", (V1,)),), good + [row]), False)
        for value in any_values():
            at = None if not isinstance(value, (list, tuple)) or not value else 0
            self.refuses(BadRows, row_clauses, registry, clauses, value, at=at)
            self.refuses(BadRows, row_clauses, registry, clauses, good[:2] + [value], at=2)
            self.assertIs(is_derivation(registry, clauses, clauses[0], value), False)
            self.assertIs(is_refutation(registry, [()], value), False)
            self.assertIs(is_refutation(registry, [()], [("given", value)]), repr(value) == "0")
        self.refuses(BadRows, row_clauses, registry, [], [("given", 0)], at=0)
        self.assertIs(is_derivation(registry=registry, clauses=clauses, clause=clauses[0], value=[("given", 0)]), True)

    def test_no_clauses(self):
        registry = Registry(APP)
        good = (("app", (V1,)),)
        for value in any_values():
            at = None
            if isinstance(value, (list, tuple)):
                wrong = [at for at, item in enumerate(value) if not (isinstance(item, tuple) and item == ())]
                if not wrong:
                    continue
                at = wrong[0]
            for call, more in ((row_clauses, [None]), (derivation, [None]), (is_derivation, [None, None]),
                               (refutation, []), (is_refutation, [None]), (stray, [None]), (strongest, []), (needless, [])):
                self.refuses(BadClauses, call, registry, value, *more, at=at)
                if at is not None:
                    self.refuses(BadClauses, call, registry, [good, good, *value], *more, at=2 + at)
            if value != ():
                for call in (derivation, stray):
                    self.refuses(BadClause, call, registry, [good], value)
                self.refuses(BadClause, is_derivation, registry, [good], value, [("given", 0)])
        self.refuses(BadClauses, refutation, registry, [good] * 201, at=None)
        self.refuses(BadClauses, refutation, registry, [good] * 199 + [None, None], at=None)
        self.refuses(BadClauses, refutation, registry, [good] * 199 + [None], at=199)
        self.same(refutation(registry=registry, clauses=[good] * 200), None)
        self.same(stray(registry=registry, clauses=[good], clause=()), {})
        self.same(derivation(registry=registry, clauses=[good], clause=good), [("given", 0)])
        self.assertIs(is_refutation(registry=registry, clauses=[good, ()], value=[("given", 1)]), True)

    def test_great_ones(self):
        rng = random.Random(75)
        for counts in [(4, 4, 4, 3), (4, 4, 3, 2, 1), (3, 3, 3, 2, 2)]:
            kits = {kit: {(at, 0, 0): some_manifest(rng, list("abcde")[:len(counts)], 4) for at in range(many)}
                    for kit, many in zip("abcde", counts)}
            registry = Registry(kits)
            clauses = given_clauses(registry, {"a": ALL})
            while len(clauses) < 125:
                clauses.append(tuple((kit, tuple(sorted(rng.sample(plain_states(kits, kit), len(kits[kit]) // 2 + 1))))
                                     for kit in kits))
            rng.shuffle(clauses)
            for wanted in [(), (("a", ((),)),), (("b", ((),)),), (("c", ((), (0, 0, 0))),), (("d", ((1, 0, 0),)),)]:
                rows = derivation(registry, clauses, wanted)
                self.assertEqual(rows is not None, follows(kits, clauses, wanted))
                if rows is not None:
                    self.assertIs(is_derivation(registry, clauses, wanted, rows), True)
                    self.assertTrue(all(plain_barred(judged(kits, clauses, rows)[-1], chosen)
                                        for chosen in plain_sets(kits) if plain_barred(wanted, chosen)))

    def test_many_rows(self):
        kits = {kit: {V1: EMPTY, V2: EMPTY, V3: EMPTY} for kit in "abcd"}
        rng = random.Random(76)
        clauses = [tuple((kit, tuple(sorted(lot[kit]))) for kit in kits) for lot in self.lots(kits)]
        rng.shuffle(clauses)
        self.assertTrue(100 < len(clauses) <= 200)
        rows = refutation(Registry(kits), clauses)
        self.assertGreater(len(rows), 200)
        self.assertIs(is_refutation(Registry(kits), clauses, rows), True)
        self.same(row_clauses(Registry(kits), clauses, rows), judged(kits, clauses, rows))

    def lots(self, kits):
        """Boxes of all sets: of one state of three kits each, and two of the fourth one."""
        states = plain_states(kits, "a")
        return [{"a": [one], "b": [other], "c": [third], "d": lot} for one in states for other in states
                for third in states for lot in (states[:2], states[2:])]


class Promise30(Case):
    def test_strongest(self):
        for _, kits, clauses in cases(77, 150, most_kits=3, most_versions=2):
            registry = Registry(kits)
            following = [clause for clause in all_clauses(kits) if follows(kits, clauses, clause)]
            wide = {clause: frozenset(plain_line(kits, chosen) for chosen in plain_sets(kits)
                                      if plain_barred(clause, chosen)) for clause in following}
            wanted = sorted(clause for clause in following
                            if not any(wide[clause] < wide[other] for other in following))
            self.same(self.answers_anew(strongest, registry, clauses), wanted)
            self.same(strongest(registry, wanted), wanted)
            for clause in following:
                self.assertTrue(any(wide[clause] <= wide[other] for other in wanted))

    def test_more_states(self):
        for _, kits, clauses in cases(78, 25, most_kits=2, most_versions=4):
            registry = Registry(kits)
            found = strongest(registry, clauses)
            following = [clause for clause in all_clauses(kits) if follows(kits, clauses, clause)]
            wide = {clause: {plain_line(kits, chosen) for chosen in plain_sets(kits) if plain_barred(clause, chosen)}
                    for clause in following}
            self.same(found, sorted(clause for clause in following
                                    if not any(wide[clause] < wide[other] for other in following)))

    def test_ends(self):
        registry = Registry(APP)
        self.same(strongest(registry, []), [])
        self.same(strongest(registry, [()]), [()])
        self.same(strongest(registry=registry, clauses=[(("app", ((),)),), (("app", (V1, V2)),)]), [()])
        self.same(strongest(registry, [(("app", (V1,)),), (("app", (V2,)), ("lib", ((),)))]),
                  [(("app", (V1,)),), (("app", (V1, V2)), ("lib", ((),)))])

    def test_too_many(self):
        kits = {kit: {(at, 0, 0): EMPTY for at in range(3)} for kit in "abcd"}

        def scattered(seed):
            """Clauses of one line each, of a lot that looks scattered."""
            found = []
            for line in plain_lines(kits):
                seed = (seed * 1103515245 + 12345) % 2 ** 31
                if (seed >> 16) % 10 < 6:
                    found.append(tuple((kit, (state,)) for kit, state in zip("abcd", line)))
            return found

        found = strongest(Registry(kits), scattered(67))
        self.assertEqual(len(found), 200)
        self.same(strongest(Registry(kits), found), found)
        self.assertTrue(all(is_clause(Registry(kits), clause) for clause in found))
        self.refuses(TooMany, strongest, Registry(kits), scattered(73), most=200)

    def test_lines_apart(self):
        # Boxes of one line each of which no two are beside one another: as many strongest ones as lines.
        kits = {kit: {(at, 0, 0): EMPTY for at in range(many)} for kit, many in zip("abcd", (4, 4, 4, 3))}
        lines = [(i, j, k, l) for i in range(5) for j in range(5) for k in range(5) for l in range(4)
                 if (i + 2 * j + 3 * k) % 5 == l]
        clauses = [tuple((kit, (plain_states(kits, kit)[at],)) for kit, at in zip("abcd", line)) for line in lines]
        self.assertEqual(len(clauses), 100)
        self.same(strongest(Registry(kits), clauses), sorted(clauses))


class Promise31(Case):
    def test_needless(self):
        for _, kits, clauses in cases(79, 200):
            wanted = tuple(at for at, clause in enumerate(clauses)
                           if follows(kits, clauses[:at] + clauses[at + 1:], clause))
            self.same(self.answers_anew(needless, Registry(kits), clauses), wanted)

    def test_equal_ones(self):
        registry = Registry(APP)
        one, other = (("app", (V1,)),), (("lib", (V1,)),)
        self.same(needless(registry, [one, other, one]), (0, 2))
        self.same(needless(registry=registry, clauses=[one, other]), ())
        self.same(needless(registry, [(), one, ()]), (0, 1, 2))
        self.same(needless(registry, []), ())


class Facts29(Case):
    def test_what_registry_and_roots_give(self):
        rng = random.Random(80)
        for _ in range(100):
            kits = some_kits(rng)
            roots = some_roots(rng, kits)
            registry = Registry(kits)
            rows = refutation(registry, given_clauses(registry, roots))
            self.assertEqual(rows is None, bool(sound_sets(registry, roots)))
            later = registry.published("n", V1, EMPTY) if len(kits) < 5 else registry
            self.assertEqual(rows is None, refutation(later, given_clauses(later, roots)) is None)


if __name__ == "__main__":
    unittest.main()
