"""Promises [64] and [65]: what stays loaded between two sets, and what stands ahead in all installs."""

import itertools
import random
import unittest

from kitwright.errors import BadRoots, BadSet, NoKit, NotRegistry
from kitwright.loading import groups, heeded
from kitwright.registries import Registry
from kitwright.staying import (
    ahead_word, always_ahead, is_staying_paper, is_word_paper, staying, staying_paper, word_paper)
from tests.samples import ALL, EMPTY, HIGH, LOW, NONE, V1, V2, Case, any_values, plain_installs
from tests.test_loading import (
    ALL_OF_HOUSE, HOUSE, load_kits, plain_groups, plain_leads, plain_links, plain_list_leads, plain_orders, some_set)


def lots_of(kits):
    """All lots of kits, shorter first, then ascending."""
    return [lot for size in range(len(kits) + 1) for lot in itertools.combinations(sorted(kits), size)]


def plain_can_stay(kits, first, second, lot):
    """Whether a lot can stay, by the words of the promise."""
    for kit in lot:
        if kit not in first or first[kit] != second.get(kit):
            return False
    for chosen in (first, second):
        group, links = plain_groups(kits, chosen), plain_links(kits, chosen)
        if not all(set(group[kit]) <= set(lot) for kit in lot) or not all(p in lot for p, k in links if k in lot):
            return False
    return True


def plain_is_chain(kits, first, second, kit, value):
    """Whether a list of pairs is a chain to a kit, by the words of the promise."""
    if not value or value[-1][0] != kit or value[0][1] != "":
        return False
    start = value[0][0]
    if start not in {*first, *second} or first.get(start) == second.get(start):
        return False
    for (one, _), (other, word) in zip(value, value[1:]):
        chosen = {"first": first, "second": second}.get(word)
        if chosen is None or one not in chosen or other not in chosen:
            return False
        if other not in plain_groups(kits, chosen)[one] and (one, other) not in plain_links(kits, chosen):
            return False
    return True


def stay_cases(seed, many):
    """Quadruples of a generator, kits and two sets, the second one often much like the first one."""
    rng = random.Random(seed)
    for _ in range(many):
        kits = load_kits(rng)
        first = some_set(rng, kits)
        second = some_set(rng, kits)
        if rng.random() < 0.7:
            second = dict(first)
            for kit in rng.sample(sorted(kits), min(len(kits), rng.randint(0, 2))):
                second[kit] = rng.choice([None, *kits[kit]])
            second = {kit: version for kit, version in second.items() if version}
        yield rng, kits, first, second


def install_kits(rng):
    """Kits with several installs: roots want some of them, hints lead here and there."""
    names = list("abcd"[:rng.randint(2, 4)])
    kits = {}
    for name in names:
        kits[name] = {}
        for version in (V1, V2)[:rng.randint(1, 2)]:
            wants = {other: rng.choice([ALL, ALL, LOW, HIGH]) for other in names if rng.random() < 0.35}
            bars = {other: rng.choice([LOW, HIGH, NONE]) for other in names if other != name and rng.random() < 0.1}
            kits[name][version] = (wants, bars, tuple(other for other in names if rng.random() < 0.3))
    return kits, {kit: rng.choice([ALL, ALL, LOW]) for kit in rng.sample(names, rng.randint(1, 2))}


def install_cases(seed, many):
    """Quadruples of a generator, kits, roots and all installs, of which there are some."""
    rng = random.Random(seed)
    found = 0
    while found < many:
        kits, roots = install_kits(rng)
        sets = plain_installs(kits, roots)
        if sets or rng.random() < 0.05:
            found += 1
            yield rng, kits, roots, sets


class Promise64(Case):
    def test_greatest_lots(self):
        seen = {"some": 0, "less": 0, "long": 0}
        for rng, kits, first, second in stay_cases(321, 200):
            registry = Registry(kits)
            good = [lot for lot in lots_of({**first, **second}) if plain_can_stay(kits, first, second, lot)]
            found = self.answers_anew(staying, registry, first, second)
            self.same(found, good[-1])
            # Lots that can stay can stay together, so all lie in the greatest one.
            self.assertTrue(all(set(lot) <= set(found) for lot in good))
            paper = self.answers_anew(staying_paper, registry, first, second)
            self.assertIs(type(paper), tuple)
            lot, chains = paper
            self.same(lot, found)
            self.same(list(chains), [kit for kit in sorted({**first, **second}) if kit not in found])
            for kit, chain in chains.items():
                self.assertIs(type(chain), list)
                self.assertTrue(plain_is_chain(kits, first, second, kit, chain))
                seen["long"] += len(chain) > 2
            self.assertIs(is_staying_paper(registry, first, second, (lot, dict(reversed(chains.items())))), True)
            seen["some"] += len(lot) > 1
            seen["less"] += len(lot) < len([kit for kit in first if first[kit] == second.get(kit)])
            self.otherwise(registry, kits, rng, first, second, lot, chains)
        self.assertGreater(min(seen.values()), 8, seen)

    def otherwise(self, registry, kits, rng, first, second, lot, chains):
        """Papers with one thing otherwise are told by the test's own look."""
        for other in lots_of({**first, **second}):
            rest = {kit: chain for kit, chain in chains.items() if kit not in other}
            full = set(rest) | set(other) == {*first, *second}
            right = plain_can_stay(kits, first, second, other) and full
            self.assertIs(is_staying_paper(registry, first, second, (other, rest)), right)
            if other != lot:
                self.assertFalse(right)
        for kit, chain in chains.items():
            self.assertIs(is_staying_paper(registry, first, second, (lot, {
                other: row for other, row in chains.items() if other != kit})), False)
            values = [chain[1:], chain[:-1], chain + chain[-1:], chain + [(kit, "first")], chain + [(kit, "second")], chain[::-1]]
            values += [chain[:at] + [(pair[0], word)] + chain[at + 1:] for at, pair in enumerate(chain)
                       for word in ("", "first", "second", "third")]
            values += [chain[:at] + [(other, pair[1])] + chain[at + 1:] for at, pair in enumerate(chain) for other in kits]
            for value in values:
                right = plain_is_chain(kits, first, second, kit, value)
                self.assertIs(is_staying_paper(registry, first, second, (lot, {**chains, kit: value})), right)
                self.assertIs(is_staying_paper(registry, first, second, (lot, {**chains, kit: tuple(value)})), right)

    def test_facts(self):
        begun = 0
        for rng, kits, first, second in stay_cases(322, 120):
            registry = Registry(kits)
            for lot in lots_of({**first, **second}):
                if not plain_can_stay(kits, first, second, lot):
                    continue
                alone = {kit: first[kit] for kit in lot}
                for chosen in (first, second):
                    self.same([pair for pair in heeded(registry, chosen) if set(pair) <= set(lot)], heeded(registry, alone))
                    self.same([told for told in groups(registry, chosen) if set(told) <= set(lot)], groups(registry, alone))
                    begins = {order[:len(lot)] for order in plain_orders(kits, chosen)}
                    self.assertLessEqual(set(plain_orders(kits, alone)), begins)
                begun += len(lot) > 1
        self.assertGreater(begun, 50)

    def test_by_hand(self):
        house = Registry(HOUSE)
        self.same(staying(registry=house, first=ALL_OF_HOUSE, second=ALL_OF_HOUSE), ("app", "log", "net"))
        self.same(staying_paper(house, {}, {}), ((), {}))
        less = {"log": V1, "net": V1}
        self.same(staying(house, ALL_OF_HOUSE, less), ("log", "net"))
        self.same(staying_paper(registry=house, first=ALL_OF_HOUSE, second=less), (("log", "net"), {"app": [("app", "")]}))
        paper = staying_paper(house, ALL_OF_HOUSE, {"app": V1, "log": V1})
        self.same(paper[0], ())
        self.same(paper[1]["net"], [("net", "")])
        self.same(paper[1]["log"], [("net", ""), ("log", "first")])
        self.same(paper[1]["app"], [("net", ""), ("log", "first"), ("app", "first")])
        self.assertIs(is_staying_paper(registry=house, first=ALL_OF_HOUSE, second={"app": V1, "log": V1}, value=paper), True)
        # The link from log to app stands in the second set, too.
        chains = {**paper[1], "app": [("net", ""), ("log", "first"), ("app", "second")]}
        self.assertIs(is_staying_paper(house, ALL_OF_HOUSE, {"app": V1, "log": V1}, ((), chains)), True)
        chains = {**paper[1], "app": [("net", ""), ("log", "second"), ("app", "second")]}
        self.assertIs(is_staying_paper(house, ALL_OF_HOUSE, {"app": V1, "log": V1}, ((), chains)), False)
        # A version otherwise, by which a want or a hint is otherwise.
        kits = {"a": {V1: EMPTY, V2: ({"b": ALL}, {}, ())}, "b": {V1: ({}, {}, ("a",)), V2: EMPTY}, "c": {V1: ({"b": ALL}, {}, ())}}
        one, other = {"a": V1, "b": V1, "c": V1}, {"a": V2, "b": V1, "c": V1}
        self.same(staying_paper(Registry(kits), one, other), ((), {
            "a": [("a", "")], "b": [("a", ""), ("b", "first")], "c": [("a", ""), ("b", "first"), ("c", "first")]}))
        self.same(staying(Registry(kits), other, {"b": V1, "c": V1}), ("b", "c"))

    def test_no_papers(self):
        house, less = Registry(HOUSE), {"log": V1, "net": V1}
        chain = {"app": [("app", "")]}
        for value in any_values() + [[("log", "net"), chain], (("log", "net"), chain, 1), (["log", "net"], chain),
                                     (("net", "log"), chain), (("log", "log", "net"), chain), (("log", "net"), {}),
                                     (("log", "net"), {**chain, "log": [("log", "")]}), (("log", "net"), {"zz": chain["app"]}),
                                     (("log", "net"), [("app", chain["app"])]), (("log", "net", "zz"), chain)]:
            self.assertIs(is_staying_paper(house, ALL_OF_HOUSE, less, value), False)
            self.assertIs(is_staying_paper(house, ALL_OF_HOUSE, less, (value, chain)), False)
            self.assertIs(is_staying_paper(house, ALL_OF_HOUSE, less, (("log", "net"), value)), False)
            self.assertIs(is_staying_paper(house, ALL_OF_HOUSE, less, (("log", "net", value), chain)), False)
            for row in (value, [value], [("app", value)], [(value, "")], [value, ("app", "")], [("app", ""), value],
                        [["app", ""]], [("app", "", value)]):
                if row != [("app", "")]:
                    right = row == [("app", "")] or (row == [("app", value)] and value == "")
                    self.assertIs(is_staying_paper(house, ALL_OF_HOUSE, less, (("log", "net"), {"app": row})), right)
            self.refuses(BadSet, staying, house, value, value) if value != {} or not isinstance(value, dict) else None
            self.refuses(BadSet, staying_paper, house, {}, value) if value != {} or not isinstance(value, dict) else None
        for call, more in ((staying, []), (staying_paper, []), (is_staying_paper, [None])):
            self.refuses(NotRegistry, call, None, None, None, *more)
            self.refuses(BadSet, call, house, {"zz": V1}, {}, *more)
            self.refuses(BadSet, call, house, {}, {"app": V2}, *more)


class Promise65(Case):
    def plain_word(self, kits, sets, one, other):
        """The word, by a trying of all installs and all orders."""
        orders = [order for chosen in sets if one in chosen and other in chosen for order in plain_orders(kits, chosen)]
        if not orders:
            return "apart"
        if all(order.index(one) < order.index(other) for order in orders):
            return "ahead"
        if all(order.index(other) < order.index(one) for order in orders):
            return "behind"
        return "either"

    def test_words_and_papers(self):
        seen = {"apart": 0, "ahead": 0, "behind": 0, "either": 0}
        for rng, kits, roots, sets in install_cases(323, 120):
            registry = Registry(kits)
            words = {}
            for one, other in itertools.permutations(sorted(kits), 2):
                word = self.plain_word(kits, sets, one, other)
                words[one, other] = word
                seen[word] += 1
                self.same(ahead_word(registry, roots, one, other), word)
                paper = self.answers_anew(word_paper, registry, roots, one, other)
                self.judge(kits, sets, one, other, word, paper)
                self.assertIs(is_word_paper(registry, roots, one, other, paper), True)
                self.assertIs(is_word_paper(registry, roots, one, other, (word, tuple(paper[1]))), True)
                for wrong in ("apart", "ahead", "behind", "either", "Ahead", None):
                    self.assertIs(is_word_paper(registry, roots, one, other, (wrong, paper[1])), wrong == word)
                self.otherwise(registry, kits, roots, sets, one, other, word, paper[1])
            wanted = sorted(pair for pair, word in words.items() if word == "ahead")
            self.same(self.answers_anew(always_ahead, registry, roots), wanted)
            self.no_rings(sets, wanted)
        self.assertGreater(min(seen.values()), 40, seen)

    def no_rings(self, sets, pairs):
        """No install has all kits of a ring of pairs."""
        for chosen in sets:
            inside = [(one, other) for one, other in pairs if one in chosen and other in chosen]
            left = set(chosen)
            while left:
                free = {kit for kit in left if not any(other == kit and one in left for one, other in inside)}
                self.assertTrue(free)
                left -= free

    def judge(self, kits, sets, one, other, word, paper):
        """A paper of the word that is due, by the test's own look."""
        both = [chosen for chosen in sets if one in chosen and other in chosen]
        self.same(paper[0], word)
        self.assertIs(type(paper[1]), list)
        if word in ("ahead", "behind"):
            start, goal = (one, other) if word == "ahead" else (other, one)
            self.same([chosen for chosen, _ in paper[1]], both)
            for chosen, links in paper[1]:
                self.assertTrue(plain_list_leads(plain_groups(kits, chosen), plain_links(kits, chosen), start, goal, links))
        elif word == "either":
            (first, order), (second, turned) = paper[1]
            self.assertTrue(first in both and second in both)
            self.assertTrue(order in plain_orders(kits, first) and turned in plain_orders(kits, second))
            self.assertTrue(order.index(one) < order.index(other) and turned.index(other) < turned.index(one))
        else:
            self.same(paper[1], [])

    def otherwise(self, registry, kits, roots, sets, one, other, word, told):
        """Papers with one install, link or order otherwise."""
        def holds(value):
            return is_word_paper(registry, roots, one, other, (word, value))
        for at, pair in enumerate(told):
            self.assertIs(holds(told[:at] + told[at + 1:]), False)
            self.assertIs(holds(told + [pair]), False)
            for wrong in [list(pair), (*pair, 1), (pair[0],), (pair[1], pair[0]), (pair[0], None), (None, pair[1]),
                          ({**pair[0], "zz": V1}, pair[1]), ({}, pair[1])]:
                self.assertIs(holds(told[:at] + [wrong] + told[at + 1:]), False)
            first, second = (one, other) if word == "ahead" or at == 0 and word == "either" else (other, one)
            if word == "either":
                for chosen in sets:
                    for order in plain_orders(kits, chosen)[:6]:
                        right = first in order and second in order and order.index(first) < order.index(second)
                        self.assertIs(holds(told[:at] + [(chosen, order)] + told[at + 1:]), right)
            else:
                group, links = plain_groups(kits, pair[0]), plain_links(kits, pair[0])
                for value in (pair[1][1:], pair[1] + pair[1][-1:], pair[1][:-1], [*pair[1], *pair[1]], pair[1][::-1], []):
                    right = plain_list_leads(group, links, first, second, value)
                    self.assertIs(holds(told[:at] + [(pair[0], value)] + told[at + 1:]), right)
                    self.assertIs(holds(told[:at] + [(pair[0], tuple(value))] + told[at + 1:]), right)
        if len(told) == 2:
            self.assertIs(holds(told[::-1]), False)
        if word == "apart":
            self.assertIs(holds([({}, [])]), False)

    def test_by_hand(self):
        house, roots = Registry(HOUSE), {"app": ALL}
        told = {"registry": house, "roots": roots, "one": "log", "other": "app"}
        self.same(ahead_word(**told), "ahead")
        self.same(word_paper(**told), ("ahead", [(ALL_OF_HOUSE, [("log", "app")])]))
        self.same(word_paper(house, roots, "app", "net"), ("behind", [(ALL_OF_HOUSE, [("log", "app")])]))
        self.assertIs(is_word_paper(**told, value=("ahead", ((ALL_OF_HOUSE, (("log", "app"),)),))), True)
        self.same(always_ahead(registry=house, roots=roots), [("log", "app"), ("net", "app"), ("net", "log")])
        self.same(word_paper(house, {}, "app", "log"), ("apart", []))
        self.assertIs(is_word_paper(house, {}, "app", "log", ("apart", ())), True)
        self.same(always_ahead(house, {}), [])
        # By one version the one is loaded first, by another one the other.
        kits = {"a": {V1: EMPTY, V2: ({}, {}, ("b",))}, "b": {V1: EMPTY}}
        paper = word_paper(Registry(kits), {"a": ALL, "b": ALL}, "a", "b")
        self.same(paper, ("either", [({"a": V1, "b": V1}, ("a", "b")), ({"a": V1, "b": V1}, ("b", "a"))]))
        value = ("either", [paper[1][0], ({"b": V1, "a": V2}, ("b", "a"))])
        self.assertIs(is_word_paper(Registry(kits), {"a": ALL, "b": ALL}, "a", "b", value), True)
        value = ("either", [({"a": V2, "b": V1}, ("a", "b")), paper[1][1]])
        self.assertIs(is_word_paper(Registry(kits), {"a": ALL, "b": ALL}, "a", "b", value), False)
        for value in any_values() + [dict(enumerate(paper[1])), paper[1] + paper[1], paper[1][:1]]:
            self.assertIs(is_word_paper(Registry(kits), {"a": ALL, "b": ALL}, "a", "b", ("either", value)), False)
        # Two orders of one install are told without sharing what can be changed.
        paper[1][0][0].clear()
        self.same(paper[1][1], ({"a": V1, "b": V1}, ("b", "a")))

    def test_strict_sets(self):
        house, roots = Registry(HOUSE), {"app": ALL}
        for wrong in (True, 1):
            chosen = {**ALL_OF_HOUSE, "net": (wrong, 0, 0)}
            value = ("ahead", [(chosen, [("log", "app")])])
            self.assertIs(is_word_paper(house, roots, "log", "app", value), wrong is not True)

    def test_refused(self):
        house, roots = Registry(HOUSE), {"app": ALL}
        for call, more in ((ahead_word, []), (word_paper, []), (is_word_paper, [None])):
            for value in any_values() + ["zz", "App"]:
                self.refuses(NoKit, call, house, roots, value, None, *more, kit=value)
                self.refuses(NoKit, call, house, roots, "app", value, *more, kit=value)
            self.refuses(NoKit, call, house, roots, "log", "log", *more, kit="log")
            self.refuses(NotRegistry, call, None, None, None, None, *more)
            self.refuses(BadRoots, call, house, None, None, None, *more)
        for value in any_values():
            self.assertIs(is_word_paper(house, roots, "log", "app", value), False)
            self.assertIs(is_word_paper(house, roots, "log", "app", ("ahead", value)), False)
            self.assertIs(is_word_paper(house, roots, "log", "app", ("ahead", [value])), False)
            self.assertIs(is_word_paper(house, roots, "log", "app", ("ahead", [(ALL_OF_HOUSE, value)])), False)
            self.assertIs(is_word_paper(house, roots, "log", "app", ("ahead", [(ALL_OF_HOUSE, [value])])), False)
            self.assertIs(is_word_paper(house, roots, "log", "app", (value, [(ALL_OF_HOUSE, [("log", "app")])])), False)
            self.assertIs(is_word_paper(house, {}, "log", "app", ("apart", value)),
                          isinstance(value, (list, tuple)) and not value)
        self.refuses(BadRoots, always_ahead, house, None)
        self.refuses(NotRegistry, always_ahead, None, None)

    def test_leads_is_ahead(self):
        for _, kits, roots, sets in install_cases(324, 60):
            for chosen in sets[:5]:
                group, links = plain_groups(kits, chosen), plain_links(kits, chosen)
                for one, other in itertools.permutations(chosen, 2):
                    always = all(order.index(one) < order.index(other) for order in plain_orders(kits, chosen))
                    self.assertEqual(plain_leads(group, links, one, other), always)


if __name__ == "__main__":
    unittest.main()
