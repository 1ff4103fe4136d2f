"""Promises [38] and [39]: rulings, what demands leave, what can stand for one of them, and the cheapest gifts."""

import itertools
import random
import unittest

from kitwright.clauses import given_clauses
from kitwright.errors import BadDemands, BadNumber, BadPrices, NoKit, NotRegistry
from kitwright.quarrels import demand_clauses, gifts, meeting_lots, quarrels
from kitwright.ranges import Range
from kitwright.refuting import is_refutation, refutation
from kitwright.registries import Registry
from kitwright.rulings import cheapest_gifts, is_ruling, left_states, ruling, stand_ins
from tests.samples import ALL, APP, EMPTY, HIGH, LOW, NONE, V1, V2, Case, any_values, has, plain_sets, plain_sound
from tests.test_quarrels import all_lots, cases, least, meets
from tests.test_refuting import judged

BY_HAND = {"b": {V1: ({"c": LOW}, {}, ())}, "c": {V1: EMPTY, V2: EMPTY}, "d": {V1: ({"c": HIGH}, {}, ())}}
DEMANDS = [("want", "b", ALL), ("want", "d", ALL), ("bar", "c", LOW)]


def closed_and_met(kits, demands, lot):
    """The closed sets that meet all demands but perhaps those of a lot, by the test's own look."""
    return [chosen for chosen in plain_sound(kits, {})
            if all(index in lot or meets(chosen, demand) for index, demand in enumerate(demands))]


def plain_quarrels(kits, demands):
    """All quarrels."""
    lots = all_lots(len(demands))
    rests = {lot: tuple(index for index in range(len(demands)) if index not in lot) for lot in lots}
    return least([lot for lot in lots if not closed_and_met(kits, demands, rests[lot])])


def plain_gifts(kits, demands):
    """All gifts."""
    return least([lot for lot in all_lots(len(demands)) if closed_and_met(kits, demands, lot)])


class Promise38(Case):
    def test_all_and_in_their_order(self):
        longer = 0
        for _, kits, demands in cases(201, 120):
            registry = Registry(kits)
            against, free = found = self.answers_anew(ruling, registry, demands)
            self.assertIs(type(against), list)
            self.assertIs(type(free), list)
            self.same([lot for lot, _ in against], plain_quarrels(kits, demands))
            self.same([lot for lot, _ in free], plain_gifts(kits, demands))
            self.assertEqual([lot for lot, _ in against], quarrels(registry, demands))
            self.assertEqual([lot for lot, _ in free], gifts(registry, demands))
            for lot, rows in against:
                self.judge(kits, demands, lot, rows)
            for lot, chosen in free:
                self.assertIn(chosen, closed_and_met(kits, demands, lot))
            self.assertIs(is_ruling(registry, demands, found), True)
            self.assertIs(is_ruling(registry, tuple(demands), (tuple(against[::-1]), tuple(free[::-1]))), True)
            longer += len(against) > 1
        self.assertGreater(longer, 10)

    def judge(self, kits, demands, lot, rows):
        """The rows are of the given clauses and those of the lot, in their order, and the last one bars all sets."""
        registry = Registry(kits)
        told = [demand_clauses(registry, demands)[index] for index in lot]
        clauses = given_clauses(registry, {}) + [clause for clause in told if clause is not None]
        self.assertIs(type(rows), list)
        self.same(judged(kits, clauses, rows)[-1], ())

    def test_papers_otherwise(self):
        changed = 0
        for rng, kits, demands in cases(202, 120):
            registry = Registry(kits)
            against, free = ruling(registry, demands)
            for place in (0, 1):
                for at in range(len((against, free)[place])):
                    less, twice = (list(against), list(free)), (list(against), list(free))
                    del less[place][at]
                    self.assertIs(is_ruling(registry, demands, less), False)
                    twice[place].append(twice[place][at])
                    self.assertIs(is_ruling(registry, demands, twice), False)
            for (lot, rows), (other, more) in itertools.combinations(against, 2):
                rest = [pair for pair in against if pair[0] not in (lot, other)]
                if demands[lot[-1]] != demands[other[-1]]:
                    changed += 1
                wrong = rest + [(lot, more), (other, rows)]
                right = all(self.refutes(registry, demands, *pair) for pair in wrong)
                self.assertIs(is_ruling(registry, demands, (wrong, free)), right)
            for (lot, chosen), (other, more) in itertools.combinations(free, 2):
                rest = [pair for pair in free if pair[0] not in (lot, other)]
                wrong = rest + [(lot, more), (other, chosen)]
                right = more in closed_and_met(kits, demands, lot) and chosen in closed_and_met(kits, demands, other)
                self.assertIs(is_ruling(registry, demands, (against, wrong)), right)
            for at, (lot, _) in enumerate(free):
                for chosen in plain_sets(kits):
                    told = free[:at] + [(lot, chosen)] + free[at + 1:]
                    self.assertIs(is_ruling(registry, demands, (against, told)),
                                  chosen in closed_and_met(kits, demands, lot))
        self.assertGreater(changed, 5)

    def refutes(self, registry, demands, lot, rows):
        """Whether rows are a refutation for a lot, by the module of clauses."""
        told = [clause for clause in [demand_clauses(registry, demands)[index] for index in lot] if clause is not None]
        return is_refutation(registry, given_clauses(registry, {}) + told, rows)

    def test_lots_that_are_too_great(self):
        registry = Registry(BY_HAND)
        against, free = ruling(registry, DEMANDS)
        clauses = given_clauses(registry, {}) + demand_clauses(registry, DEMANDS)
        rows = refutation(registry, clauses)
        for more in (against + [((0, 1, 2), rows)], [((0, 1, 2), rows)] + against):
            self.assertIs(is_ruling(registry, DEMANDS, (more, free)), False)
        self.assertIs(is_ruling(registry, DEMANDS, ([((0, 1, 2), rows)], [((0,), {}), ((1,), {}), ((2,), {})])), False)
        self.assertIs(is_ruling(registry, DEMANDS, (against[:1] + [((0, 1, 2), rows)], free)), False)
        self.assertIs(is_ruling(registry, DEMANDS, (against, free + [((0, 1), {})])), False)
        self.assertIs(is_ruling(registry, DEMANDS, (against, [((0,), {"c": V2, "d": V1}), ((0, 2), {"b": V1, "c": V1})])), False)
        # What is free tells of least meeting lots, but of a lot that has more than a quarrel.
        self.assertIs(is_ruling(registry, DEMANDS, ([((0, 1, 2), rows)], free)), False)

    def test_by_hand(self):
        registry = Registry(BY_HAND)
        against, free = ruling(registry=registry, demands=DEMANDS)
        self.same([lot for lot, _ in against], [(0, 1), (0, 2)])
        self.same(free[0], ((0,), {"c": V2, "d": V1}))
        self.same(free[1], ((1, 2), {"b": V1, "c": V1}))
        self.assertIs(is_ruling(registry=registry, demands=DEMANDS, value=([*against], [*free])), True)
        self.same(ruling(registry, []), ([], [((), {})]))
        self.same(ruling(registry, DEMANDS[:1]), ([], [((), {"b": V1, "c": V1})]))
        self.assertIs(is_ruling(registry, [], ((), (((), {"c": V2}),))), True)
        self.assertIs(is_ruling(registry, [], ((), ())), False)
        self.assertIs(is_ruling(registry, [], ([((), [("given", 0)])], [])), False)

    def test_demands_that_every_set_meets(self):
        # Their clauses are None, and left out ahead of those of the other demands.
        registry = Registry(BY_HAND)
        demands = [("bar", "zz", ALL), *DEMANDS[:2]]
        against, free = ruling(registry, demands)
        self.same([lot for lot, _ in against], [(1, 2)])
        self.same([lot for lot, _ in free], [(1,), (2,)])
        rows = against[0][1]
        self.assertIs(is_ruling(registry, demands, ([((0, 1, 2), rows)], free)), False)
        more = [((0,), {}), ((1,), free[0][1]), ((2,), free[1][1])]
        self.assertIs(is_ruling(registry, demands, ([((0, 1, 2), rows)], more)), False)
        self.assertIs(is_ruling(registry, demands, ([((0,), rows)], [((0,), {})])), False)

    def test_demands_twice(self):
        registry = Registry(APP)
        want, bar = ("want", "app", ALL), ("bar", "app", ALL)
        demands = [want, bar, want]
        against, free = ruling(registry, demands)
        self.same([lot for lot, _ in against], [(0, 1), (1, 2)])
        self.same([lot for lot, _ in free], [(1,), (0, 2)])
        # Equal demands have equal clauses, so their refutations may be exchanged.
        self.assertIs(is_ruling(registry, demands, ([(against[0][0], against[1][1]), (against[1][0], against[0][1])], free)),
                      True)

    def test_no_rulings(self):
        registry = Registry(BY_HAND)
        against, free = ruling(registry, DEMANDS)
        for value in any_values():
            self.assertIs(is_ruling(registry, DEMANDS, value), False)
            self.assertIs(is_ruling(registry, DEMANDS, (value, free)), False)
            self.assertIs(is_ruling(registry, DEMANDS, (against, value)), False)
            self.assertIs(is_ruling(registry, DEMANDS, (against[1:] + [value], free)), False)
            self.assertIs(is_ruling(registry, DEMANDS, (against, free[1:] + [value])), False)
            self.assertIs(is_ruling(registry, DEMANDS, (against, free, value)), False)
            for pairs in ([(value, against[0][1])], [(against[0][0], value)], [(*against[0], value)], [list(against[0])]):
                self.assertIs(is_ruling(registry, DEMANDS, (pairs + against[1:], free)), False)
            if repr(value) != "(0,)":
                self.assertIs(is_ruling(registry, DEMANDS, (against, [(value, free[0][1])] + free[1:])), False)
            for pairs in ([(free[0][0], value)], [(*free[0], value)], [list(free[0])]):
                self.assertIs(is_ruling(registry, DEMANDS, (against, pairs + free[1:])), False)
        self.assertIs(is_ruling(registry, DEMANDS, [against, free]), False)
        for lot in [(1, 0), (0, 0, 1), (False, 1), [0, 1], (0, 3), (-1, 0)]:
            self.assertIs(is_ruling(registry, DEMANDS, ([(lot, against[0][1]), against[1]], free)), False)
        for lot in [(False,), [0], (0, 0), (3,), (-3,)]:
            self.assertIs(is_ruling(registry, DEMANDS, (against, [(lot, free[0][1]), free[1]])), False)
        for chosen in [{"c": (True, 0, 0)}, {"c": V2, "d": (True, 0, 0)}, {"c": V2, "d": [1, 0, 0]}, {"d": V1}, {"c": V1}]:
            self.assertIs(is_ruling(registry, DEMANDS, (against, [((0,), chosen), free[1]])), False)

    def test_seven_demands(self):
        kits = {kit: {V1: ({}, {other: ALL for other in "abc" if other != kit}, ())} for kit in "abc"}
        demands = [("want", kit, ALL) for kit in "abcabca"]
        registry = Registry(kits)
        found = ruling(registry, demands)
        self.assertEqual(len(found[0]), 16)
        self.assertIs(is_ruling(registry, demands, found), True)
        self.assertEqual(meeting_lots([lot for lot, _ in found[0]], 7), [lot for lot, _ in found[1]])


class Promise39(Case):
    def test_left_states(self):
        none = 0
        for rng, kits, demands in cases(203, 150):
            registry, sets = Registry(kits), closed_and_met(kits, demands, ())
            none += not sets
            for kit in kits:
                wanted = tuple(sorted({chosen.get(kit, ()) for chosen in sets}))
                self.same(self.answers_anew(left_states, registry, demands, kit), wanted)
                # What a further want or bar of this kit does is told by these states.
                for ranged in (ALL, LOW, HIGH, NONE):
                    if len(demands) < 7:
                        many = tuple(range(len(demands) + 1))
                        for word in ("want", "bar"):
                            more = demands + [(word, kit, ranged)]
                            inside = [state for state in wanted if state != () and has(ranged, state)]
                            fails = not inside if word == "want" else len(inside) == len(wanted)
                            lots = quarrels(registry, more)
                            self.assertEqual(any(set(lot) <= set(many) for lot in lots), fails)
        self.assertGreater(none, 20)

    def test_stand_ins(self):
        seen = {"want": 0, "bar": 0}
        for _, kits, demands in cases(204, 150):
            registry = Registry(kits)
            for index, (word, kit, _) in enumerate(demands):
                others = closed_and_met(kits, demands, (index,))
                if word == "want":
                    wanted = tuple(version for version in sorted(kits.get(kit, {}))
                                   if any(chosen.get(kit) == version for chosen in others))
                else:
                    wanted = tuple(version for version in sorted(kits.get(kit, {}))
                                   if all(chosen.get(kit) != version for chosen in others))
                self.same(self.answers_anew(stand_ins, registry, demands, index), wanted)
                seen[word] += len(wanted) > 0
                for version in wanted:
                    if word == "want":
                        alone = Range([(version, version[:2] + (version[2] + 1,))])
                        self.assertEqual(gifts(registry, demands[:index] + [("want", kit, alone)] + demands[index + 1:]), [()])
        self.assertGreater(min(seen.values()), 20)

    def test_cheapest_gifts(self):
        several = 0
        for rng, kits, demands in cases(205, 150):
            registry = Registry(kits)
            prices = [rng.choice([0, 0, 1, 2, 3, 5, 10 ** 9]) for _ in demands]
            enough = [lot for lot in all_lots(len(demands)) if closed_and_met(kits, demands, lot)]
            cost = min(sum(prices[index] for index in lot) for lot in enough)
            wanted = [lot for lot in plain_gifts(kits, demands) if sum(prices[index] for index in lot) == cost]
            self.same(self.answers_anew(cheapest_gifts, registry, demands, prices), (cost, wanted))
            self.same(cheapest_gifts(registry, tuple(demands), tuple(prices)), (cost, wanted))
            several += len(wanted) > 1
        self.assertGreater(several, 3)

    def test_by_hand(self):
        registry = Registry(BY_HAND)
        self.same(left_states(registry=registry, demands=DEMANDS[1:], kit="c"), (V2,))
        self.same(left_states(registry, DEMANDS, "c"), ())
        self.same(left_states(registry, [], "b"), ((), V1))
        self.same(left_states(registry, [("bar", "d", ALL)], "d"), ((),))
        self.same(cheapest_gifts(registry=registry, demands=DEMANDS, prices=[5, 1, 3]), (4, [(1, 2)]))
        self.same(cheapest_gifts(registry, DEMANDS, [4, 1, 3]), (4, [(0,), (1, 2)]))
        self.same(cheapest_gifts(registry, DEMANDS, [0, 0, 0]), (0, [(0,), (1, 2)]))
        self.same(cheapest_gifts(registry, DEMANDS[1:], [7, 7]), (0, [()]))
        self.same(cheapest_gifts(registry, [], []), (0, [()]))
        self.same(stand_ins(registry=registry, demands=DEMANDS, index=0), ())
        self.same(stand_ins(registry, DEMANDS, 2), (V1, V2))
        self.same(stand_ins(registry, DEMANDS[1:], 1), (V1,))
        self.same(stand_ins(registry, [("bar", "c", ALL), ("want", "b", ALL)], 0), (V2,))
        self.same(stand_ins(registry, [("want", "c", NONE), ("want", "b", ALL)], 0), (V1,))
        self.same(stand_ins(registry, [("want", "zz", ALL), ("bar", "zz", ALL)], 0), ())
        self.same(stand_ins(registry, [("want", "zz", ALL), ("bar", "zz", ALL)], 1), ())
        self.same(stand_ins(registry, [("bar", "c", LOW), ("want", "zz", ALL)], 0), (V1, V2))

    def test_refused(self):
        registry = Registry(BY_HAND)
        for value in any_values() + ["zz", "B", ("b",), ["b"]]:
            self.refuses(NoKit, left_states, registry, DEMANDS, value, kit=value)
            self.refuses(BadPrices, cheapest_gifts, registry, DEMANDS, [1, value, 1] if repr(value) not in (
                "0", "1", "3", str(10 ** 99)) else value)
            if not (isinstance(value, int) and not isinstance(value, bool) and 0 <= value < 3):
                self.refuses(BadNumber, stand_ins, registry, DEMANDS, value)
        for prices in [[1, 2], [1, 2, 3, 4], [1, -1, 2], [1, True, 2], [False, 0, 0], {0: 1, 1: 1, 2: 1}, "111", [], None,
                       {"b": (1, 1, 1)}]:
            self.refuses(BadPrices, cheapest_gifts, registry, DEMANDS, prices)
        for index in (3, -1, True, False, None, "0", (0,), 10 ** 99):
            self.refuses(BadNumber, stand_ins, registry, DEMANDS, index)
        self.refuses(BadNumber, stand_ins, registry, [], 0)
        for call, more in ((ruling, []), (is_ruling, [None]), (left_states, [1]), (stand_ins, ["x"]), (cheapest_gifts, [1])):
            self.refuses(NotRegistry, call, None, None, *more)
            self.refuses(BadDemands, call, registry, None, *more, at=None)
            self.refuses(BadDemands, call, registry, DEMANDS + [("want", "b")], *more, at=3)
            self.refuses(BadDemands, call, registry, DEMANDS[:1] * 8, *more, at=None)


class BehindAPublish(Case):
    def test_versions_come_and_go(self):
        rng = random.Random(206)
        for _, kits, demands in cases(207, 40):
            registry, kit = Registry(kits), rng.choice(sorted(kits))
            if len(kits[kit]) == 4:
                continue
            later = registry.published(kit, (9, 0, 0), EMPTY)
            for other in kits:
                # Whoever publishes loses no set; what is left of another kit can only grow, but for bars of the new one.
                wants = [demand for demand in demands if demand[0] == "want"]
                self.assertLessEqual(set(left_states(registry, wants, other)), set(left_states(later, wants, other)))
            found = ruling(registry, demands)
            self.assertIs(is_ruling(later.withdrawn(kit, (9, 0, 0)), demands, found), True)


if __name__ == "__main__":
    unittest.main()
