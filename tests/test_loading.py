"""Promises [60] to [63]: groups, hints that are heeded, orders and papers about them, and swaps."""

import itertools
import random
import unittest

from kitwright.errors import BadHint, BadNumber, BadOrder, BadSet, BadSwap, NoKit, NotRegistry
from kitwright.loading import (
    against, ahead_paper, group_paper, groups, heeded, hints, is_against, is_ahead_paper, is_group_paper, is_order,
    order_at, order_count, rule_order, swapped, swaps)
from kitwright.registries import Registry, renamed
from tests.samples import ALL, EMPTY, NONE, V1, V2, Case, any_values

FREE = ALL


def load_kits(rng, most=5):
    """Kits in one or two versions that want and hint one another, at times all around, and kits that are not there."""
    names = list("abcde"[:rng.choice([1, 2, 3, 4, 5, 5, 5]) if most == 5 else rng.randint(1, most)])
    kits = {}
    wanting, hinting = rng.choice([0.1, 0.2, 0.3, 0.4, 0.5]), rng.choice([0.1, 0.2, 0.5])
    for name in names:
        kits[name] = {}
        for version in (V1, V2)[:1 if len(names) == 5 else rng.randint(1, 2)]:
            wants = {other: rng.choice([ALL, NONE]) for other in [*names, "z"] if rng.random() < wanting}
            after = tuple(other for other in [*names, "z"] if rng.random() < hinting)
            kits[name][version] = (dict(list(wants.items())[:4]), {}, after[:4])
    return kits


def some_set(rng, kits):
    """A set, mostly of all kits, sound or not."""
    return {kit: rng.choice(sorted(kits[kit])) for kit in sorted(kits) if rng.random() < 0.85}


def load_cases(seed, many, most=5):
    """Triples of a generator, kits and a set."""
    rng = random.Random(seed)
    for _ in range(many):
        kits = load_kits(rng, most)
        yield rng, kits, some_set(rng, kits)


# The test's own look.

def pairs_in(kits, chosen, part):
    """The pairs of unlike kits of a set, the first one standing in a part of the manifest of the second one."""
    return sorted((one, kit) for kit in chosen for one in kits[kit][chosen[kit]][part] if one in chosen and one != kit)


def spread(pairs, kit):
    """All kits to which pairs lead from one, itself among them."""
    found = {kit}
    while True:
        more = {other for one, other in pairs if one in found} - found
        if not more:
            return found
        found |= more


def plain_groups(kits, chosen):
    """The dict from the kits to their groups."""
    wants = pairs_in(kits, chosen, 0)
    return {kit: tuple(sorted(other for other in spread(wants, kit) if kit in spread(wants, other))) for kit in chosen}


def plain_leads(group, links, one, other):
    """Whether some links lead from a kit to an unlike one."""
    if group[one] == group[other]:
        return other in spread([link for link in links if set(link) <= set(group[one])], one)
    between = [(group[p], group[k]) for p, k in links if group[p] != group[k]]
    return group[other] in spread(between, group[one])


def plain_heeded(kits, chosen):
    """The heeded hints."""
    group, found = plain_groups(kits, chosen), []
    wants = [(p, k) for p, k in pairs_in(kits, chosen, 0) if group[p] != group[k]]
    for p, k in pairs_in(kits, chosen, 2):
        if not plain_leads(group, wants + found, k, p):
            found.append((p, k))
    return found


def plain_links(kits, chosen):
    """All links."""
    group = plain_groups(kits, chosen)
    wants = [(p, k) for p, k in pairs_in(kits, chosen, 0) if group[p] != group[k]]
    return sorted({*wants, *plain_heeded(kits, chosen)})


def plain_orders(kits, chosen):
    """All orders, ascending."""
    group, links, found = plain_groups(kits, chosen), plain_links(kits, chosen), []
    for order in itertools.permutations(sorted(chosen)):
        runs = [key for key, _ in itertools.groupby(order, key=lambda kit: group[kit])]
        if len(runs) == len(set(group.values())) and all(order.index(p) < order.index(k) for p, k in links):
            found.append(order)
    return found


def plain_list_leads(group, links, one, other, value):
    """Whether any value is a list of some links that leads from a kit to another one, step by step."""
    if not isinstance(value, (list, tuple)) or not value or not all(link in links for link in value):
        return False
    near = group[one] == group[other]
    if any((set(link) <= set(group[one])) != near for link in value) and near:
        return False
    if not near and any(group[p] == group[k] for p, k in value):
        return False
    place = (lambda kit: kit) if near else (lambda kit: group[kit])
    return place(value[0][0]) == place(one) and place(value[-1][1]) == place(other) and all(
        place(link[1]) == place(later[0]) for link, later in zip(value, value[1:]))


def many_lists(links, rng):
    """Lists of links of all kinds, short ones."""
    rows = [[]] + [[link] for link in links] + [list(row) for row in itertools.product(links, repeat=2)]
    rows += [[rng.choice(links) for _ in range(3)] for _ in range(20)] if links else []
    return rows if len(rows) < 60 else rng.sample(rows, 60)


HOUSE = {"app": {V1: ({"log": FREE}, {}, ())}, "log": {V1: ({"net": FREE}, {}, ("net",))},
         "net": {V1: ({"log": FREE}, {}, ("app",))}}
ALL_OF_HOUSE = {"app": V1, "log": V1, "net": V1}


class Promise60(Case):
    def test_groups(self):
        many = 0
        for _, kits, chosen in load_cases(301, 250):
            group = plain_groups(kits, chosen)
            found = self.answers_anew(groups, Registry(kits), chosen)
            self.same(found, sorted(set(group.values())))
            many += any(len(lot) > 1 for lot in found)
        self.assertGreater(many, 60)

    def test_papers(self):
        seen = {"round": 0, "split": 0}
        for rng, kits, chosen in load_cases(302, 100):
            registry, group, wants = Registry(kits), plain_groups(kits, chosen), pairs_in(kits, chosen, 0)
            for one, other in itertools.product(chosen, repeat=2):
                paper = self.answers_anew(group_paper, registry, chosen, one, other)
                seen[paper[0]] += one != other
                self.assertEqual(paper[0] == "round", group[one] == group[other])
                self.assertIs(is_group_paper(registry, chosen, one, other, paper), True)
                self.judge_round_and_split(registry, rng, chosen, wants, one, other)
                if paper[0] == "round":
                    self.assertTrue(self.is_round(wants, one, other, paper[1]))
                    self.assertIs(type(paper[1]), list)
                else:
                    self.assertTrue(self.is_split(wants, one, other, paper[1]))
        self.assertGreater(min(seen.values()), 50)

    def is_round(self, wants, one, other, kits):
        """Whether a list is a ring by the words of the promise."""
        return len(kits) > 0 and kits[0] == kits[-1] == one and other in kits and all(
            pair in wants for pair in zip(kits, kits[1:]))

    def is_split(self, wants, one, other, lot):
        """Whether a lot is split off by the words of the promise."""
        return len({one, other} & set(lot)) == 1 and (one in lot) != (other in lot) and all(
            p in lot for p, k in wants if k in lot)

    def judge_round_and_split(self, registry, rng, chosen, wants, one, other):
        """All lots, and lists of kits, are told by the test's own look; never both words are there."""
        rounds = splits = 0
        for size in range(len(chosen) + 1):
            for lot in itertools.combinations(sorted(chosen), size):
                right = self.is_split(wants, one, other, lot)
                splits += right
                self.assertIs(is_group_paper(registry, chosen, one, other, ("split", lot)), right)
        for _ in range(10):
            kits = [one] + [rng.choice(sorted(chosen)) for _ in range(rng.randint(0, 4))] + [one][:rng.randint(0, 1)]
            right = self.is_round(wants, one, other, kits)
            rounds += right
            self.assertIs(is_group_paper(registry, chosen, one, other, ("round", kits)), right)
            self.assertIs(is_group_paper(registry, chosen, one, other, ("round", tuple(kits))), right)
        self.assertFalse(rounds and splits)

    def test_by_hand(self):
        house = Registry(HOUSE)
        self.same(groups(registry=house, chosen=ALL_OF_HOUSE), [("app",), ("log", "net")])
        self.same(groups(house, {}), [])
        self.same(groups(house, {"app": V1, "net": V1}), [("app",), ("net",)])
        self.same(group_paper(registry=house, chosen=ALL_OF_HOUSE, one="log", other="net"), ("round", ["log", "net", "log"]))
        self.same(group_paper(house, ALL_OF_HOUSE, "app", "app"), ("round", ["app"]))
        self.same(group_paper(house, ALL_OF_HOUSE, "app", "net"), ("split", ("log", "net")))
        told = {"registry": house, "chosen": ALL_OF_HOUSE, "one": "log", "other": "net"}
        self.assertIs(is_group_paper(**told, value=("round", ["log", "net", "log", "net", "log"])), True)
        for value in [("round", ["net", "log", "net"]), ("round", ["log", "log"]), ("round", ["log"]), ("round", []),
                      ["round", ["log", "net", "log"]], ("round", ["log", "net", "log"], 1), ("split", ("log",)),
                      ("split", ()), ("split", ["log"]), ("Round", ["log", "net", "log"]), ("round",),
                      ("round", ["net", "log"]), ("round", ["log", "net"]), ("round", ["net", "log", "net", "log"])]:
            self.assertIs(is_group_paper(**told, value=value), False, value)
        for value in [("split", ("net", "log")), ("split", ("log", "net", "zz")), ("split", ("log", "log", "net")),
                      ("split", ("app", "log", "net")), ("split", ()), ("Split", ("log", "net")), (None, ("log", "net"))]:
            self.assertIs(is_group_paper(house, ALL_OF_HOUSE, "app", "net", value), False, value)
        for value in any_values():
            for word in ("round", "split", value):
                self.assertIs(is_group_paper(**told, value=(word, value)), False)
                self.assertIs(is_group_paper(house, ALL_OF_HOUSE, "app", "net", (word, value)), False)
            self.assertIs(is_group_paper(**told, value=("round", ["log", value, "log"])), False)
            self.assertIs(is_group_paper(**told, value=("split", ("log", value))), False)
            self.assertIs(is_group_paper(**told, value=(value, ["log", "net", "log"])), False)


class Promise61(Case):
    def test_hints_and_heeded(self):
        less = inner = 0
        for _, kits, chosen in load_cases(303, 300):
            registry, group = Registry(kits), plain_groups(kits, chosen)
            wanted = plain_heeded(kits, chosen)
            self.same(self.answers_anew(hints, registry, chosen), pairs_in(kits, chosen, 2))
            self.same(self.answers_anew(heeded, registry, chosen), wanted)
            less += len(wanted) < len(pairs_in(kits, chosen, 2))
            inner += any(group[p] == group[k] for p, k in wanted)
        self.assertGreater(min(less, inner), 40)

    def test_against(self):
        seen = {True: 0, False: 0}
        for rng, kits, chosen in load_cases(304, 150):
            registry, group = Registry(kits), plain_groups(kits, chosen)
            good, links = plain_heeded(kits, chosen), plain_links(kits, chosen)
            wants = [(p, k) for p, k in pairs_in(kits, chosen, 0) if group[p] != group[k]]
            for p, k in pairs_in(kits, chosen, 2):
                found = self.answers_anew(against, registry, chosen, (p, k))
                self.assertEqual(found is None, (p, k) in good)
                ahead = wants + [pair for pair in good if pair < (p, k)]
                self.assertIs(is_against(registry, chosen, (p, k), found), found is not None)
                seen[found is None] += 1
                if found is not None:
                    self.assertTrue(plain_list_leads(group, ahead, k, p, found))
                for value in many_lists(sorted({*links, *pairs_in(kits, chosen, 2)}), rng):
                    right = plain_list_leads(group, ahead, k, p, value)
                    self.assertIs(is_against(registry, chosen, (p, k), value), right)
                    self.assertIs(is_against(registry, chosen, (p, k), tuple(value)), right)
        self.assertGreater(min(seen.values()), 80)

    def test_by_hand(self):
        house = Registry(HOUSE)
        self.same(hints(registry=house, chosen=ALL_OF_HOUSE), [("app", "net"), ("net", "log")])
        self.same(heeded(registry=house, chosen=ALL_OF_HOUSE), [("net", "log")])
        self.same(against(registry=house, chosen=ALL_OF_HOUSE, hint=("app", "net")), [("log", "app")])
        self.same(against(house, ALL_OF_HOUSE, ("net", "log")), None)
        told = {"registry": house, "chosen": ALL_OF_HOUSE, "hint": ("app", "net")}
        self.assertIs(is_against(**told, value=(("log", "app"),)), True)
        for value in [[("log", "net")], [["log", "app"]], [("log", "app", 1)], [("log", "app"), ("log", "app")], [],
                      [("net", "app")], {("log", "app"): 1}, [("app", "log")], None]:
            self.assertIs(is_against(**told, value=value), False, value)
        self.assertIs(is_against(house, ALL_OF_HOUSE, ("net", "log"), None), False)
        # Hints against one another: the least one is heeded, and what it leads back.
        ring = Registry({"a": {V1: ({}, {}, ("c",))}, "b": {V1: ({}, {}, ("a",))}, "c": {V1: ({}, {}, ("b",))}})
        chosen = {"a": V1, "b": V1, "c": V1}
        self.same(hints(ring, chosen), [("a", "b"), ("b", "c"), ("c", "a")])
        self.same(heeded(ring, chosen), [("a", "b"), ("b", "c")])
        self.same(against(ring, chosen, ("c", "a")), [("a", "b"), ("b", "c")])
        self.assertIs(is_against(ring, chosen, ("c", "a"), [("a", "b")]), False)
        self.same(rule_order(ring, chosen), ("a", "b", "c"))
        self.same(heeded(ring, {"a": V1, "c": V1}), [("c", "a")])
        own = Registry({"a": {V1: ({"a": ALL}, {}, ("a", "q"))}})
        self.same([hints(own, {"a": V1}), heeded(own, {"a": V1}), groups(own, {"a": V1})], [[], [], [("a",)]])

    def test_a_want_that_is_a_hint(self):
        # A link as a want may stand in a list though the hint of the same kits comes later.
        kits = {"a": {V1: ({}, {}, ("c",))}, "b": {V1: ({"a": ALL}, {}, ("a",))}, "c": {V1: ({"b": ALL}, {}, ("b",))}}
        registry, chosen = Registry(kits), {"a": V1, "b": V1, "c": V1}
        self.same(heeded(registry, chosen), [("a", "b"), ("b", "c")])
        self.same(against(registry, chosen, ("c", "a")), [("a", "b"), ("b", "c")])
        kits["a"][V1] = ({}, {}, ())
        kits["b"][V1] = ({"c": ALL}, {}, ("a", "c"))
        kits["c"][V1] = ({"a": ALL}, {}, ("b",))
        registry = Registry(kits)
        self.same(against(registry, chosen, ("b", "c")), [("c", "b")])
        self.assertIs(is_against(registry, chosen, ("b", "c"), [("c", "b")]), True)

    def test_no_hints(self):
        house = Registry(HOUSE)
        for call, more in ((against, []), (is_against, [None])):
            for value in any_values() + [["app", "net"], ("log", "app"), ("net", "app"), ("app", "zz"), ("app", "net", 1)]:
                self.refuses(BadHint, call, house, ALL_OF_HOUSE, value, *more)
            self.refuses(BadHint, call, house, {"app": V1}, ("app", "net"), *more)
        for value in any_values():
            self.assertIs(is_against(house, ALL_OF_HOUSE, ("app", "net"), value), False)
            self.assertIs(is_against(house, ALL_OF_HOUSE, ("app", "net"), [("log", "app"), value]), False)


class Promise62(Case):
    def test_all_orders(self):
        for rng, kits, chosen in load_cases(305, 200):
            registry, orders = Registry(kits), plain_orders(kits, chosen)
            self.assertTrue(orders)
            self.same(order_count(registry, chosen), len(orders))
            self.same(rule_order(registry, chosen), orders[0])
            for index in {0, len(orders) - 1, rng.randrange(len(orders)), len(orders) // 2}:
                self.same(order_at(registry, chosen, index), orders[index])
            for index in (-1, len(orders), 10 ** 99):
                self.refuses(BadNumber, order_at, registry, chosen, index)
            for order in itertools.islice(itertools.permutations(sorted(chosen)), 40):
                self.assertIs(is_order(registry, chosen, order), order in orders)
                self.assertIs(is_order(registry, chosen, order[1:]), chosen == {})
                self.assertIs(is_order(registry, chosen, order + order[:1]), chosen == {})
                self.assertIs(is_order(registry, chosen, list(order)), False)

    def test_rule(self):
        for _, kits, chosen in load_cases(306, 150):
            group, links, order = plain_groups(kits, chosen), plain_links(kits, chosen), []
            while len(order) < len(chosen):
                free = [lot for lot in set(group.values()) if not set(lot) & set(order) and all(
                    set(group[p]) <= set(order) for p, k in links if k in lot and p not in lot)]
                inner = [link for link in links if group[link[0]] == group[link[1]]]
                least = min(min(kit for kit in lot if not any(k == kit for _, k in inner)) for lot in free)
                rest = list(group[least])
                while rest:
                    kit = min(one for one in rest if not any(p in rest and k == one for p, k in inner))
                    rest.remove(kit)
                    order.append(kit)
            self.same(self.answers_anew(rule_order, Registry(kits), chosen), tuple(order))

    def test_rule_of_a_lot(self):
        smaller = 0
        for _, kits, chosen in load_cases(307, 150):
            registry, group, links = Registry(kits), plain_groups(kits, chosen), plain_links(kits, chosen)
            for size in range(len(chosen)):
                for lot in itertools.combinations(sorted(chosen), size):
                    if all(set(group[kit]) <= set(lot) for kit in lot) and all(p in lot for p, k in links if k in lot):
                        alone = {kit: chosen[kit] for kit in lot}
                        whole = rule_order(registry, chosen)
                        self.same(rule_order(registry, alone), tuple(kit for kit in whole if kit in lot))
                        self.same(heeded(registry, alone), [pair for pair in heeded(registry, chosen) if set(pair) <= set(lot)])
                        smaller += size > 1
        self.assertGreater(smaller, 100)

    def test_papers(self):
        seen = {"links": 0, "order": 0}
        for rng, kits, chosen in load_cases(308, 120):
            registry, group, links = Registry(kits), plain_groups(kits, chosen), plain_links(kits, chosen)
            orders = plain_orders(kits, chosen)
            for one, other in itertools.permutations(sorted(chosen), 2):
                word, told = paper = self.answers_anew(ahead_paper, registry, chosen, one, other)
                seen[word] += 1
                always = all(order.index(one) < order.index(other) for order in orders)
                self.assertEqual(word == "links", always)
                self.assertEqual(plain_leads(group, links, one, other), always)
                self.assertIs(is_ahead_paper(registry, chosen, one, other, paper), True)
                if always:
                    self.assertTrue(plain_list_leads(group, links, one, other, told))
                else:
                    self.assertIn(told, orders)
                    self.assertLess(told.index(other), told.index(one))
                for value in many_lists(sorted({*links, *pairs_in(kits, chosen, 2)}), rng)[:15]:
                    self.assertIs(is_ahead_paper(registry, chosen, one, other, ("links", value)),
                                  plain_list_leads(group, links, one, other, value))
                for order in orders[:5] + list(itertools.islice(itertools.permutations(sorted(chosen)), 5)):
                    right = order in orders and order.index(other) < order.index(one)
                    self.assertIs(is_ahead_paper(registry, chosen, one, other, ("order", order)), right)
        self.assertGreater(min(seen.values()), 100)

    def test_by_hand(self):
        house, told = Registry(HOUSE), {"registry": Registry(HOUSE), "chosen": ALL_OF_HOUSE}
        self.same(rule_order(**told), ("net", "log", "app"))
        self.same(order_count(**told), 1)
        self.same(order_at(**told, index=0), ("net", "log", "app"))
        self.assertIs(is_order(**told, value=("net", "log", "app")), True)
        self.same([order_count(house, {}), rule_order(house, {}), order_at(house, {}, 0)], [1, (), ()])
        self.assertIs(is_order(house, {}, ()), True)
        self.assertIs(is_order(house, {}, []), False)
        # Links of the group lead from each of its kits to what comes behind.
        self.same(ahead_paper(**told, one="net", other="app"), ("links", [("log", "app")]))
        self.same(ahead_paper(house, ALL_OF_HOUSE, "net", "log"), ("links", [("net", "log")]))
        self.same(ahead_paper(house, ALL_OF_HOUSE, "log", "net"), ("order", ("net", "log", "app")))
        self.assertIs(is_ahead_paper(**told, one="net", other="app", value=("links", (("log", "app"),))), True)
        for value in any_values() + [("links", []), ["links", [("log", "app")]], ("links", [("log", "app")], 1),
                                     ("order", ("net", "log", "app")), ("links", [("net", "log"), ("log", "app")])]:
            self.assertIs(is_ahead_paper(house, ALL_OF_HOUSE, "net", "app", value), False)
            self.assertIs(is_ahead_paper(house, ALL_OF_HOUSE, "net", "app", ("links", value)), False)
            self.assertIs(is_ahead_paper(house, ALL_OF_HOUSE, "app", "net", ("order", value)), False)
            self.assertIs(is_ahead_paper(house, ALL_OF_HOUSE, "app", "net", (value, ("net", "log", "app"))), False)
            self.assertIs(is_order(house, ALL_OF_HOUSE, value), False)
            self.assertIs(is_order(house, ALL_OF_HOUSE, ("net", "log", value)), False)
        five = Registry({kit: {V1: EMPTY} for kit in "abcde"})
        self.same(order_count(five, dict.fromkeys("abcde", V1)), 120)
        self.same(order_at(five, dict.fromkeys("abcde", V1), 119), tuple("edcba"))

    def test_refused(self):
        house = Registry(HOUSE)
        for call in (group_paper, is_group_paper, ahead_paper, is_ahead_paper):
            more = [None] if call in (is_group_paper, is_ahead_paper) else []
            for value in any_values() + ["zz", "App", ("app",)]:
                self.refuses(NoKit, call, house, ALL_OF_HOUSE, value, None, *more, kit=value)
                self.refuses(NoKit, call, house, ALL_OF_HOUSE, "app", value, *more, kit=value)
                self.refuses(NoKit, call, house, ALL_OF_HOUSE, value, "app", *more, kit=value)
            self.refuses(NoKit, call, house, {"log": V1}, "log", "app", *more, kit="app")
            self.refuses(BadSet, call, house, None, None, None, *more)
            self.refuses(NotRegistry, call, None, None, None, None, *more)
        for call, more in ((ahead_paper, []), (is_ahead_paper, [None])):
            self.refuses(NoKit, call, house, ALL_OF_HOUSE, "net", "net", *more, kit="net")
        for index in any_values():
            if repr(index) != "0":
                self.refuses(BadNumber, order_at, house, ALL_OF_HOUSE, index)
        self.refuses(BadNumber, order_at, house, {}, 1)
        self.refuses(BadNumber, order_at, house, {}, False)


class Promise63(Case):
    def plain_swaps(self, group, orders, order):
        """The dict from all swaps of an order to the orders behind them."""
        found = {}
        for i in range(len(order)):
            if i + 1 < len(order) and group[order[i]] == group[order[i + 1]]:
                found["kits", i] = order[:i] + (order[i + 1], order[i]) + order[i + 2:]
            if i == 0 or group[order[i - 1]] != group[order[i]]:
                j = i + len(group[order[i]])
                if j < len(order):
                    end = j + len(group[order[j]])
                    found["groups", i] = order[:i] + order[j:end] + order[i:j] + order[end:]
        return {swap: later for swap, later in found.items() if later in orders}

    def test_swapped_and_swaps(self):
        seen = {"kits": 0, "groups": 0}
        for rng, kits, chosen in load_cases(309, 200):
            registry, group, orders = Registry(kits), plain_groups(kits, chosen), plain_orders(kits, chosen)
            order, goal = rng.choice(orders), rng.choice(orders)
            wanted = self.plain_swaps(group, orders, order)
            for word in ("kits", "groups"):
                for i in range(-1, len(order) + 2):
                    if (word, i) in wanted:
                        self.same(swapped(registry, chosen, order, (word, i)), wanted[word, i])
                    else:
                        self.refuses(BadSwap, swapped, registry, chosen, order, (word, i))
            found = self.answers_anew(swaps, registry, chosen, order, goal)
            later = order
            for swap in found:
                seen[swap[0]] += 1
                later = swapped(registry, chosen, later, swap)
            self.assertEqual(later, goal)
            self.assertEqual(len(found), self.turned(group, order, goal))
        self.assertGreater(min(seen.values()), 20)

    def turned(self, group, order, goal):
        """How many pairs of kits of one group, and of groups, stand the other way about in both."""
        kits = [(one, other) for one, other in itertools.combinations(order, 2) if group[one] == group[other]]
        lots = [key for key, _ in itertools.groupby(order, key=lambda kit: group[kit])]
        pairs = kits + [(one[0], other[0]) for one, other in itertools.combinations(lots, 2)]
        return sum(goal.index(one) > goal.index(other) for one, other in pairs)

    def test_fewest(self):
        for rng, kits, chosen in load_cases(310, 60, most=4):
            registry, group, orders = Registry(kits), plain_groups(kits, chosen), plain_orders(kits, chosen)
            start = rng.choice(orders)
            away, border = {start: 0}, [start]
            for order in border:
                for later in self.plain_swaps(group, orders, order).values():
                    if later not in away:
                        away[later] = away[order] + 1
                        border.append(later)
            self.assertEqual(set(away), set(orders))
            for goal in orders:
                self.assertEqual(len(swaps(registry, chosen, start, goal)), away[goal])

    def test_by_hand(self):
        kits = {"a": {V1: ({"b": ALL}, {}, ())}, "b": {V1: ({"a": ALL}, {}, ())}, "c": {V1: EMPTY}, "d": {V1: ({"c": ALL}, {}, ())}}
        registry, chosen = Registry(kits), dict.fromkeys("abcd", V1)
        order = ("a", "b", "c", "d")
        self.same(swapped(registry=registry, chosen=chosen, order=order, swap=("kits", 0)), ("b", "a", "c", "d"))
        self.same(swapped(registry, chosen, order, ("groups", 0)), ("c", "a", "b", "d"))
        self.same(swaps(registry=registry, chosen=chosen, order=order, goal=order), [])
        self.same(len(swaps(registry, chosen, order, ("c", "d", "b", "a"))), 3)
        for swap in [("groups", 1), ("groups", 2), ("groups", 3), ("kits", 1), ("kits", 2), ("kits", 3), ("kits", -4),
                     ("kits", True), ("kits", False), ["kits", 0], ("kits",), ("kits", 0, 0), ("Kits", 0), ("kits", None)]:
            self.refuses(BadSwap, swapped, registry, chosen, order, swap)
        for value in any_values():
            self.refuses(BadSwap, swapped, registry, chosen, order, value)
            self.refuses(BadSwap, swapped, registry, chosen, order, (value, 0))
            if repr(value) != "0":
                self.refuses(BadSwap, swapped, registry, chosen, order, ("kits", value))
            self.refuses(BadOrder, swapped, registry, chosen, value, value)
            self.refuses(BadOrder, swaps, registry, chosen, value, value)
            self.refuses(BadOrder, swaps, registry, chosen, order, value)
        for wrong in [("a", "c", "b", "d"), list(order), ("a", "b", "d", "c"), order[:3], order + ("a",), ("a", "b", "c", "zz")]:
            self.refuses(BadOrder, swapped, registry, chosen, wrong, None)
            self.refuses(BadOrder, swaps, registry, chosen, order, wrong)
        self.refuses(BadSwap, swapped, registry, {}, (), ("kits", 0))
        self.same(swaps(registry, {}, (), ()), [])
        self.refuses(BadSet, swaps, registry, None, None, None)
        self.refuses(NotRegistry, swapped, None, None, None, None)


class AcrossRegistries(Case):
    def test_called_otherwise(self):
        turned = {"a": "v", "b": "w", "c": "x", "d": "y", "e": "yy", "z": "zz"}
        for _, kits, chosen in load_cases(311, 60):
            registry = Registry(kits)
            names = {kit: turned[kit] for kit in registry.named}
            called, later = renamed(registry, names), {names[kit]: version for kit, version in chosen.items()}
            # The names ascend as before, so all that depends on the order of kits stays as well.
            self.same(groups(called, later), [tuple(names[kit] for kit in lot) for lot in groups(registry, chosen)])
            self.same(heeded(called, later), [(names[p], names[k]) for p, k in heeded(registry, chosen)])
            self.same(rule_order(called, later), tuple(names[kit] for kit in rule_order(registry, chosen)))
            self.same(order_count(called, later), order_count(registry, chosen))

    def test_versions_come_and_go(self):
        for rng, kits, chosen in load_cases(312, 40, most=4):
            registry, kit = Registry(kits), rng.choice(sorted(kits))
            later = registry.published(kit, (9, 0, 0), ({}, {}, ("a",)))
            self.same([rule_order(later, chosen), heeded(later, chosen)], [rule_order(registry, chosen), heeded(registry, chosen)])


if __name__ == "__main__":
    unittest.main()
