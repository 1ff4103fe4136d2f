"""Promises [10] to [13]: kits, versions and Ranges."""

import itertools
import random
import unittest

from kitwright.errors import BadRange, BadVersion, BadVersions, NotRange
from kitwright.ranges import (
    Range, alternation, first_in, first_unlike, is_alternation, is_kit, is_version, is_within, last_in, next_version,
    parting, widest_parting)
from tests.samples import ALL, NONE, V1, V2, V3, Case, any_values, has

FAR = (10 ** 8, 5, 0)
NEAR = [(0, 0, 0), (0, 0, 1), (0, 0, 2), (0, 1, 0), (0, 1, 1), (1, 0, 0), (1, 0, 2), (1, 2, 0), (2, 0, 0)]


def beside(*ranges):
    """The versions at all ends, and beside them."""
    found = {(0, 0, 0), FAR, (10 ** 30, 0, 0)}
    for ranged in ranges:
        for stretch in ranged.stretches:
            for end in stretch:
                if end is not None:
                    a, b, c = end
                    found |= {end, (a, b, c + 1), (a, b + 1, 0), (a + 1, 0, 0), (a, b, c + 10 ** 6)}
                    found |= {version for version in [(a, b, c - 1), (a, b - 1, 999), (a - 1, 999, 999)]
                              if min(version) >= 0}
    return sorted(found)


def near_stretches(rng, most=4):
    """A list of stretches of few versions, near to one another."""
    found = []
    for _ in range(rng.randint(0, most)):
        low, high = sorted(rng.sample(range(len(NEAR) + 1), 2))
        found.append((NEAR[low], (NEAR + [None])[high]))
    return found


class Promise10(Case):
    def test_kits(self):
        for value in ["a", "z", "kit", "abcdefgh", "zzzzzzzz"]:
            self.assertIs(is_kit(value), True)
        for value in ["", "abcdefghi", "A", "a1", "a b", "a\n", "kit-", "{", "`", "_", b"a", ["a"], ("a",), {"a": 1}]:
            self.assertIs(is_kit(value), False)
        for value in any_values():
            self.assertIs(is_kit(value), value in ("a", "kit", "none") and isinstance(value, str), repr(value))

    def test_versions(self):
        for value in [(0, 0, 0), (1, 2, 3), (10 ** 99, 0, 7)]:
            self.assertIs(is_version(value), True)
        for value in [(1, 2), (1, 2, 3, 4), [1, 2, 3], (1, 2, -1), (-1, 0, 0), (True, 0, 0), (0, False, 0), (0, 0, True),
                      (1, 2, None), ("1", "2", "3"), "123", (1, 2, 3.0), ((1,), 2, 3), {0: 1, 1: 2, 2: 3}]:
            self.assertIs(is_version(value), False)
        for value in any_values():
            self.assertIs(is_version(value), repr(value) == "(1, 0, 0)", repr(value))

    def test_next(self):
        self.same(next_version((1, 2, 3)), (1, 2, 4))
        self.same(next_version((0, 0, 0)), (0, 0, 1))
        self.same(next_version(version=(1, 0, 10 ** 20)), (1, 0, 10 ** 20 + 1))
        for value in any_values():
            if not is_version(value):
                self.refuses(BadVersion, next_version, value)


class Promise11(Case):
    def test_normal_form_by_hand(self):
        worked = Range([((1, 0, 0), (1, 2, 0)), ((1, 1, 0), (2, 0, 0)), ((3, 0, 0), None)])
        self.same(worked.stretches, (((1, 0, 0), (2, 0, 0)), ((3, 0, 0), None)))
        self.same(Range().stretches, ())
        self.same(Range([]).stretches, ())
        self.same(Range(stretches=((V1, V2),)).stretches, ((V1, V2),))
        self.same(Range([(V2, V3), (V1, V2)]).stretches, ((V1, V3),))
        self.same(Range([(V2, None), (V1, V3)]).stretches, ((V1, None),))
        self.same(Range([(V1, None), (V2, V3)]).stretches, ((V1, None),))
        self.same(Range([(V1, V3), (V1, V2)]).stretches, ((V1, V3),))
        self.same(Range([(V1, (1, 0, 1)), ((1, 0, 2), V2)]).stretches, ((V1, (1, 0, 1)), ((1, 0, 2), V2)))

    def test_all_lists_of_few_stretches(self):
        rng = random.Random(11)
        for _ in range(400):
            told = near_stretches(rng)
            ranged = Range(told)
            for version in beside(ranged, Range(told[:1])):
                wanted = any(low <= version and (high is None or version < high) for low, high in told)
                self.assertIs(version in ranged, wanted)
            ends = [end for stretch in ranged.stretches for end in stretch]
            self.assertTrue(all(end is not None for end in ends[:-1]))
            self.assertEqual(ends[:-1], sorted(set(ends[:-1])))
            self.assertTrue(len(ends) < 2 or ends[-1] is None or ends[-2] < ends[-1])
            rng.shuffle(told)
            self.assertEqual(Range(tuple(told)), ranged)
            self.assertEqual(Range(ranged.stretches).stretches, ranged.stretches)

    def test_any_value_in(self):
        for value in any_values():
            self.assertIs(value in ALL, is_version(value), repr(value))
            self.assertIs(value in NONE, False)
        self.assertNotIn((True, 0, 0), Range([((0, 0, 0), (5, 0, 0))]))
        self.assertNotIn([1, 0, 0], ALL)

    def test_refused(self):
        good = [(V1, V2), (V3, None)]
        for value in any_values():
            if not isinstance(value, (list, tuple)):
                self.refuses(BadRange, Range, value, at=None)
            for at in range(3):
                if value != (V1, V2) and value != (V1, None):
                    self.refuses(BadRange, Range, good[:at] + [value] + good[at:], at=at)
        for wrong in [(V2, V1), (V1, V1), (V1,), (V1, V2, V3), [V1, V2], (None, V1), (V1, (2, 0)), (V1, (True, 9, 9)),
                      ((False, 0, 0), V1), (V1, 9), (None, None), ((1, 0, -1), V2)]:
            self.refuses(BadRange, Range, [wrong], at=0)
            self.refuses(BadRange, Range, (*good, wrong, None), at=2)
        self.refuses(BadRange, Range, [None, None], at=0)

    def test_many(self):
        forty = [((at, 0, 0), (at, 5, 0)) for at in range(40)]
        self.assertEqual(Range(forty).stretches, tuple(forty))
        self.refuses(BadRange, Range, forty + [(V1, V2)], at=None)
        self.refuses(BadRange, Range, tuple(forty + [7]), at=None)
        self.refuses(BadRange, Range, forty[:39] + [7], at=39)
        shifted = Range([((at, 6, 0), (at, 9, 0)) for at in range(40)])
        eighty = Range(forty) | shifted
        self.assertEqual(len(eighty.stretches), 80)
        self.assertEqual(len((~eighty).stretches), 80)
        self.assertEqual(eighty - shifted, Range(forty))
        self.assertEqual(eighty & ~shifted, Range(forty))
        self.assertEqual(~~eighty, eighty)
        for version in beside(eighty):
            self.assertIs(version in eighty, has(Range(forty), version) or has(shifted, version))

    def test_operations(self):
        rng = random.Random(12)
        for _ in range(500):
            one, other = Range(near_stretches(rng, 3)), Range(near_stretches(rng, 3))
            for version in beside(one, other):
                here, there = has(one, version), has(other, version)
                self.assertIs(version in one & other, here and there)
                self.assertIs(version in one | other, here or there)
                self.assertIs(version in one - other, here and not there)
                self.assertIs(version in ~one, not here)
            for result in (one & other, one | other, one - other, ~one):
                self.assertIs(type(result), Range)
                self.assertEqual(Range(result.stretches).stretches, result.stretches)

    def test_laws(self):
        rng = random.Random(13)
        for _ in range(200):
            one, other, third = (Range(near_stretches(rng, 3)) for _ in range(3))
            self.assertEqual(one & (other | third), one & other | one & third)
            self.assertEqual(~(one | other), ~one & ~other)
            self.assertEqual(one - other, one & ~other)
            self.assertEqual(~~one, one)
            self.assertEqual((one & NONE, one | NONE, one - NONE, NONE - one), (NONE, one, one, NONE))
            self.assertEqual((one & ALL, one | ALL, one - ALL, ALL - one), (one, ALL, NONE, ~one))
        self.assertEqual((~ALL, ~NONE), (NONE, ALL))

    def test_equal(self):
        self.assertEqual(Range([(V1, V2), (V2, V3)]), Range([(V1, V3)]))
        self.assertNotEqual(Range([(V1, V3)]), Range([(V1, None)]))
        self.assertNotEqual(Range([(V1, V2)]), Range([((0, 0, 0), V2)]))
        for value in any_values():
            if not isinstance(value, Range):
                self.assertIs(NONE == value, False)
                self.assertIs(value == ALL, False)
        self.assertNotEqual(Range([(V1, V2)]), ((V1, V2),))

    def test_other_kinds(self):
        for value in any_values():
            if not isinstance(value, Range):
                self.refuses(NotRange, lambda: ALL & value)
                self.refuses(NotRange, lambda: ALL | value)
                self.refuses(NotRange, lambda: ALL - value)
                self.refuses(NotRange, lambda: value & ALL)
                self.refuses(NotRange, lambda: value | ALL)
                self.refuses(NotRange, lambda: value - ALL)

    def test_repr(self):
        self.assertEqual(repr(Range([(V2, None), (V1, (1, 2, 3))])),
                         "Range([((1, 0, 0), (1, 2, 3)), ((2, 0, 0), None)])")

    def test_no_iteration(self):
        for call in (iter, list, tuple, sorted, dict):
            with self.assertRaises(TypeError):
                call(ALL)

    def test_later_changes(self):
        told = [(V1, V2)]
        ranged = Range(told)
        told.append((V3, None))
        told[0] = (V2, V3)
        self.same(ranged.stretches, ((V1, V2),))
        one, other = Range([(V1, V2)]), Range([(V2, V3)])
        for result in (one & one, one | one, one - other, ~~one):
            result.__init__([])
        self.same((one.stretches, other.stretches), (((V1, V2),), ((V2, V3),)))


class Promise12(Case):
    def test_within(self):
        rng = random.Random(14)
        for _ in range(400):
            one, other = Range(near_stretches(rng, 2)), Range(near_stretches(rng, 3))
            wanted = all(has(other, version) for version in beside(one, other) if has(one, version))
            self.assertIs(is_within(one, other), wanted)
            self.assertIs(is_within(one & other, other), True)
            self.assertIs(is_within(one=one, other=one), True)
        self.assertIs(is_within(NONE, NONE), True)
        self.assertIs(is_within(ALL, Range([((0, 0, 1), None)])), False)
        self.assertIs(is_within(Range([(V1, None)]), Range([(V1, FAR)])), False)

    def test_first_in(self):
        rng = random.Random(15)
        for _ in range(300):
            ranged = Range(near_stretches(rng))
            for version in beside(ranged):
                later = [other for other in beside(ranged) + [version] if other >= version and has(ranged, other)]
                self.assertEqual(first_in(ranged, version), min(later, default=None))
        self.same(first_in(Range([(V1, V2)]), (0, 0, 0)), V1)
        self.same(first_in(Range([(V1, V2)]), (1, 9, 9)), (1, 9, 9))
        self.same(first_in(ranged=Range([(V1, V2)]), version=V2), None)
        self.same(first_in(ALL, FAR), FAR)

    def test_first_unlike(self):
        rng = random.Random(16)
        for _ in range(300):
            one, other = Range(near_stretches(rng, 3)), Range(near_stretches(rng, 3))
            unlike = [version for version in beside(one, other) if has(one, version) != has(other, version)]
            self.assertEqual(first_unlike(one, other), min(unlike, default=None))
            self.assertEqual(first_unlike(one, other), first_unlike(other, one))
        self.same(first_unlike(Range([(V1, V2)]), Range([(V1, None)])), V2)
        self.same(first_unlike(NONE, Range([(V1, V2)])), V1)
        self.same(first_unlike(ALL, ALL), None)

    def test_last_in(self):
        rng = random.Random(17)
        for _ in range(300):
            ranged = Range(near_stretches(rng))
            found = last_in(ranged)
            inside = [version for version in beside(ranged) if has(ranged, version)]
            if found is None:
                self.assertTrue(not inside or ranged.stretches[-1][1] is None or ranged.stretches[-1][1][2] == 0)
            else:
                self.assertIn(found, ranged)
                self.assertEqual(found, max(inside))
                self.assertNotIn(next_version(found), ranged)
        self.same(last_in(NONE), None)
        self.same(last_in(ALL), None)
        self.same(last_in(Range([(V1, V2)])), None)
        self.same(last_in(Range([(V1, (1, 2, 0))])), None)
        self.same(last_in(Range([(V1, (1, 0, 1))])), V1)
        self.same(last_in(Range([(V3, (3, 4, 5)), (V1, V2)])), (3, 4, 4))

    def test_refused(self):
        for value in any_values():
            if not isinstance(value, Range):
                for call in (is_within, first_unlike):
                    self.refuses(NotRange, call, value, ALL)
                    self.refuses(NotRange, call, ALL, value)
                self.refuses(NotRange, first_in, value, V1)
                self.refuses(NotRange, first_in, value, None)
                self.refuses(NotRange, last_in, value)
            if not is_version(value):
                self.refuses(BadVersion, first_in, ALL, value)


CELLS = [(0, 0, 0), (0, 0, 1), (0, 0, 2), (0, 0, 3), (0, 0, 4), (0, 0, 5), (0, 0, 6)]


def cell_ranges():
    """All ranges that have some of the first seven versions, and all versions behind them or none."""
    found = []
    for lot in itertools.product([False, True], repeat=8):
        stretches = [(cell, next_version(cell)) for cell, there in zip(CELLS, lot) if there]
        found.append(Range(stretches + ([((0, 0, 7), None)] if lot[7] else [])))
    return found


class Promise13(Case):
    def sides(self, seed, many):
        rng = random.Random(seed)
        for _ in range(many):
            drawn = [(version, rng.choice([0, 0, 1, 2, 3])) for version in CELLS]
            inside = [version for version, side in drawn if side == 1]
            outside = [version for version, side in drawn if side == 2]
            inside += [version for version in inside if rng.random() < 0.2]
            rng.shuffle(inside)
            rng.shuffle(outside)
            yield rng, inside, outside

    def test_parting_is_the_least(self):
        ranges = cell_ranges()
        for _, inside, outside in self.sides(18, 40):
            good = [ranged for ranged in ranges if all(version in ranged for version in inside)
                    and not any(version in ranged for version in outside)]
            fewest = min(len(ranged.stretches) for ranged in good)
            found = parting(inside, tuple(outside))
            self.assertIn(found, good)
            self.assertEqual(len(found.stretches), fewest)
            for ranged in good:
                if len(ranged.stretches) == fewest:
                    self.assertTrue(is_within(found, ranged))

    def test_widest_parting(self):
        ranges = cell_ranges()
        for _, inside, outside in self.sides(19, 40):
            good = [ranged for ranged in ranges if all(version in ranged for version in inside)
                    and not any(version in ranged for version in outside)]
            fewest = min(len((~ranged).stretches) for ranged in good)
            found = widest_parting(tuple(inside), outside)
            self.assertIn(found, good)
            self.assertEqual(len((~found).stretches), fewest)
            for ranged in good:
                if len((~ranged).stretches) == fewest:
                    self.assertTrue(is_within(ranged, found))
            self.assertEqual(found, ~parting(outside, inside))

    def test_alternation(self):
        for _, inside, outside in self.sides(20, 150):
            rows = [row for size in range(8) for row in itertools.combinations(CELLS, size)
                    if size % 2 and all(version in (outside if at % 2 else inside) for at, version in enumerate(row))]
            longest = max([len(row) for row in rows], default=0)
            found = alternation(inside, outside)
            self.same(found, min([row for row in rows if len(row) == longest], default=()))
            self.assertIs(is_alternation(inside, outside, found), True)
            self.assertEqual(len(found), max(0, 2 * len(parting(inside, outside).stretches) - 1))
            for row in rows:
                self.assertIs(is_alternation(tuple(inside), tuple(outside), row), True)

    def test_by_hand(self):
        self.same(parting([(1, 0, 0), (1, 0, 5)], [(1, 0, 3)]).stretches,
                  (((1, 0, 0), (1, 0, 1)), ((1, 0, 5), (1, 0, 6))))
        self.same(alternation([(1, 0, 0), (1, 0, 5)], [(1, 0, 3)]), ((1, 0, 0), (1, 0, 3), (1, 0, 5)))
        self.same(parting([], []), NONE)
        self.same(widest_parting([], []), ALL)
        self.same(parting([], [V1]), NONE)
        self.same(widest_parting([V1], []), ALL)
        self.same(widest_parting([], [V1]), ~Range([(V1, (1, 0, 1))]))
        self.same(alternation([], [V1]), ())
        self.same(alternation([V2, V1, V2], []), (V1,))
        self.same(parting([V2, V1], []), Range([(V1, (2, 0, 1))]))

    def test_both(self):
        for call in (parting, widest_parting, alternation):
            self.assertIsNone(call([V1, V2], [V3, V2]))
            self.assertIsNone(call([V1], [V1]))
        self.assertIs(is_alternation([V1], [V1], (V1,)), True)
        self.assertIs(is_alternation([V1, V2, V3], [V1, V2], (V1, V2, V3)), True)

    def test_is_alternation_refuses(self):
        inside, outside = [V1, V3], [V2, (4, 0, 0)]
        self.assertIs(is_alternation(inside, outside, (V1, V2, V3)), True)
        self.assertIs(is_alternation(inside, outside, ()), True)
        for value in [[V1, V2, V3], (V1, V2), (V2,), (V1, V3), (V1, V2, V1), (V3, V2, V1), (V1, V2, V3, (4, 0, 0)),
                      ((True, 0, 0),), (V1, V2, (3, False, 0)), (V1, V1, V1), [], None, (None,), ("a",), ((),),
                      (V1, V2, (5, 0, 0)), (V1, (2, 0, 1), V3), ([1, 0, 0],), ((1, 0, 0, 0),)]:
            self.assertIs(is_alternation(inside, outside, value), False, repr(value))
        for value in any_values():
            self.assertIs(is_alternation([], [], value), value == () and isinstance(value, tuple), repr(value))

    def test_many(self):
        inside = [(at, 0, 0) for at in range(40)]
        outside = [(at, 0, 1) for at in range(40)]
        self.assertEqual(len(parting(inside, outside).stretches), 40)
        self.assertEqual(len(alternation(inside, outside)), 79)
        self.assertEqual(len(widest_parting(inside, outside).stretches), 41)
        for call in (parting, widest_parting, alternation):
            self.refuses(BadVersions, call, inside + [V1], outside, part="inside")
            self.refuses(BadVersions, call, inside, outside + [V1], part="outside")

    def test_refused(self):
        for value in any_values():
            if not (isinstance(value, (list, tuple)) and all(is_version(item) for item in value)):
                for call in (parting, widest_parting, alternation):
                    self.refuses(BadVersions, call, value, [V1], part="inside")
                    self.refuses(BadVersions, call, [V1], value, part="outside")
                    self.refuses(BadVersions, call, value, value, part="inside")
                self.refuses(BadVersions, is_alternation, value, None, (), part="inside")
                self.refuses(BadVersions, is_alternation, [], value, (), part="outside")
            if not is_version(value):
                self.refuses(BadVersions, parting, [V1, value], [], part="inside")
                self.refuses(BadVersions, parting, [], [V1, value], part="outside")


if __name__ == "__main__":
    unittest.main()
