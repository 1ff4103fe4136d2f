"""Promise [70]: webs, good nodes and their heights, stuck lists, the fewest nodes, webs of installs."""

import itertools
import random
import unittest

from kitwright.errors import BadRoots, BadSet, NotRegistry, NotSound
from kitwright.ranges import Range
from kitwright.registries import Registry, renamed, together
from kitwright.sets import installs
from kitwright.webs import fewest_nodes, heights, is_lean, is_stuck, is_web, stuck, web_for, web_of
from tests.samples import (
    ALL, EMPTY, HIGH, LOW, NONE, V1, V2, V3, Case, any_values, has, plain_installs, plain_sets, some_kits, some_roots)

HAND = {"e": {V1: ({"a": ALL, "c": ALL}, {}, ())}, "a": {V1: ({"c": HIGH}, {}, ())}, "c": {V1: EMPTY, V2: EMPTY}}
HAND_WEB = ({"e": V1}, {("a", V1): {"c": V2}, ("c", V1): {}, ("c", V2): {}, ("e", V1): {"a": V1, "c": V1}})
LEAN_WEB = ({"e": V1}, {("a", V1): {"c": V2}, ("c", V2): {}, ("e", V1): {"a": V1, "c": V2}})


def web_kits(rng):
    """Kits of which a kit may want itself, or what wants it, in other versions."""
    names = list("abcd"[:rng.choice([1, 2, 3, 3, 4, 4])])
    kits = {}
    for name in names:
        kits[name] = {}
        for version in (V1, V2, V3)[:rng.choice([1, 2, 3, 3] if len(names) < 4 else [1, 2, 2, 2])]:
            # Kits that come later are wanted more often, so that there are webs and not rings alone.
            wants = {other: rng.choice([ALL, LOW, HIGH, NONE] if rng.random() < 0.1 else [ALL, ALL, LOW, HIGH])
                     for other in names if rng.random() < (0.6 if other > name else 0.12)}
            if rng.random() < 0.03:
                wants = {"z": ALL}
            bars = {other: rng.choice([LOW, HIGH, Range([(V2, V3)])]) for other in names if rng.random() < 0.06}
            kits[name][version] = (wants, bars, ())
    return kits


def web_cases(seed, many):
    """Triples of a generator, kits and roots."""
    rng = random.Random(seed)
    for at in range(many):
        kits = some_kits(rng, extra=()) if at % 4 == 3 else web_kits(rng)
        roots = {kit: rng.choice([ALL, ALL, LOW, HIGH]) for kit in sorted(kits)[:rng.choice([0, 1, 1, 1, 2])]}
        yield rng, kits, some_roots(rng, kits) if at % 10 == 9 else roots


# The test's own look.

def plain_takes(kits, node, kit):
    """The versions that a node may take for a kit."""
    wants, bars, _ = kits[node[0]][node[1]]
    return [version for version in sorted(kits.get(kit, {}))
            if has(wants[kit], version) and not (kit in bars and has(bars[kit], version))]


def plain_heights(kits):
    """The good nodes with their heights, lifted one by one from below."""
    nodes = [(kit, version) for kit in sorted(kits) for version in sorted(kits[kit])]
    found = {}
    for height in range(1, len(nodes) + 1):
        for node in nodes:
            if node not in found:
                lows = [[found.get((kit, version), 99) for version in plain_takes(kits, node, kit)]
                        for kit in kits[node[0]][node[1]][0]]
                if all(lot and min(lot) < height for lot in lows):
                    found[node] = height
    return {node: found[node] for node in nodes if node in found}


def reached(tops, links):
    """The nodes that are reached, None where one of them has no links told."""
    found, waiting = set(), list(tops.items())
    while waiting:
        node = waiting.pop()
        if node not in found:
            found.add(node)
            if node not in links:
                return None
            waiting += links[node].items()
    return found


def has_ring(links):
    """Whether a node is reached from itself."""
    def leads(node, goal, seen):
        return any(other == goal or other not in seen and leads(other, goal, seen + [other])
                   for other in links.get(node, {}).items())
    return any(leads(node, node, [node]) for node in links)


def plain_is_web(kits, roots, tops, links):
    """Whether two dicts are a web, by the words of the promise."""
    if set(tops) != set(roots) or not all(kit in kits and tops[kit] in kits[kit] and has(roots[kit], tops[kit])
                                          for kit in tops):
        return False
    for kit, version in links:
        if kit not in kits or version not in kits[kit] or set(links[kit, version]) != set(kits[kit][version][0]):
            return False
        if not all(other in plain_takes(kits, (kit, version), name) for name, other in links[kit, version].items()):
            return False
    return reached(tops, links) == set(links) and not has_ring(links)


def all_webs(kits, roots, most=300):
    """All webs, with those of which a ring comes left out; None if there are too many choices."""
    choices = [[(kit, version) for version in sorted(kits.get(kit, {})) if has(roots[kit], version)] for kit in sorted(roots)]
    found, tried = [], 0
    rows = [(dict(row), {}) for row in itertools.product(*choices)]
    while rows:
        tops, links = rows.pop()
        tried += 1
        if tried > most:
            return None
        waiting = sorted({*tops.items(), *(pair for told in links.values() for pair in told.items())} - set(links))
        if not waiting:
            if not has_ring(links):
                found.append((tops, links))
            continue
        node = waiting[0]
        wants = sorted(kits[node[0]][node[1]][0])
        for row in itertools.product(*[[(kit, version) for version in plain_takes(kits, node, kit)] for kit in wants]):
            rows.append((tops, {**links, node: dict(row)}))
    return found


def plain_is_stuck(kits, roots, nodes):
    """Whether a list of different nodes is stuck, by the words of the promise."""
    if not all(any(all((kit, version) in nodes for version in plain_takes(kits, node, kit))
                   for kit in kits[node[0]][node[1]][0]) for node in nodes):
        return False
    return any(all((kit, version) in nodes for version in kits.get(kit, {}) if has(roots[kit], version)) for kit in roots)


class GoodNodes(Case):
    def test_heights(self):
        seen = {"high": 0, "bad": 0}
        for _, kits, _ in web_cases(341, 300):
            wanted = plain_heights(kits)
            self.same(self.answers_anew(heights, Registry(kits)), wanted)
            seen["high"] += max(wanted.values(), default=0) > 2
            seen["bad"] += len(wanted) < sum(len(versions) for versions in kits.values())
        self.assertGreater(min(seen.values()), 40, seen)

    def test_of_itself(self):
        kits = {"a": {V1: ({"a": HIGH}, {}, ()), V2: EMPTY, V3: ({"a": Range([(V3, None)])}, {}, ())}}
        self.same(heights(registry=Registry(kits)), {("a", V1): 2, ("a", V2): 1})
        kits["a"][V1] = ({"a": HIGH}, {"a": Range([(V2, V3)])}, ())
        self.same(heights(Registry(kits)), {("a", V2): 1})
        self.same(web_for(Registry(kits), {"a": LOW}), None)
        kits["a"][V1] = ({"a": ALL}, {}, ())
        self.same(web_for(Registry(kits), {"a": LOW}), ({"a": V1}, {("a", V1): {"a": V2}, ("a", V2): {}}))
        self.assertIs(is_web(Registry(kits), {"a": LOW}, ({"a": V1}, {("a", V1): {"a": V1}})), False)

    def test_other_bars_do_not_count(self):
        kits = {"a": {V1: ({"b": ALL}, {"c": ALL}, ())}, "b": {V1: ({"c": ALL}, {}, ())}, "c": {V1: ({}, {"a": ALL}, ())}}
        self.same(heights(Registry(kits)), {("a", V1): 3, ("b", V1): 2, ("c", V1): 1})
        self.same(installs(Registry(kits), {"a": ALL}), [])
        self.same(fewest_nodes(Registry(kits), {"a": ALL}), 3)

    def test_by_hand(self):
        self.same(heights(Registry(HAND)), {("a", V1): 2, ("c", V1): 1, ("c", V2): 1, ("e", V1): 3})


class Webs(Case):
    def test_web_for_and_stuck(self):
        seen = {"web": 0, "none": 0, "several": 0}
        for rng, kits, roots in web_cases(342, 300):
            registry, high = Registry(kits), plain_heights(kits)
            there = all(any((kit, version) in high and has(roots[kit], version) for version in kits.get(kit, {}))
                        for kit in roots)
            web = self.answers_anew(web_for, registry, roots)
            lot = self.answers_anew(stuck, registry, roots)
            self.assertEqual([web is not None, lot is None], [there, there])
            if there:
                self.assertIs(type(web), tuple)
                self.assertTrue(plain_is_web(kits, roots, *web))
                self.assertIs(is_web(registry, roots, web), True)
                seen["web"] += len(web[1]) > 2
                seen["several"] += len({kit for kit, _ in web[1]}) < len(web[1])
            else:
                seen["none"] += 1
                self.same(lot, sorted(lot))
                self.assertTrue(plain_is_stuck(kits, roots, lot))
                self.assertIs(is_stuck(registry, roots, lot), True)
            nodes = [(kit, version) for kit in sorted(kits) for version in sorted(kits[kit])]
            for _ in range(8):
                value = rng.sample(nodes, rng.randint(0, len(nodes)))
                self.assertIs(is_stuck(registry, roots, value), plain_is_stuck(kits, roots, value))
                self.assertFalse(there and plain_is_stuck(kits, roots, value))
            bad = [node for node in nodes if node not in high]
            for value in [bad, bad[::-1], tuple(bad), bad[1:], bad[:-1], bad + bad[:1], bad + nodes[:1]]:
                right = len(set(value)) == len(value) and plain_is_stuck(kits, roots, list(value))
                self.assertIs(is_stuck(registry, roots, value), right)
        self.assertGreater(min(seen.values()), 10, seen)

    def test_all_webs(self):
        more = 0
        for rng, kits, roots in web_cases(343, 300):
            registry, webs = Registry(kits), all_webs(kits, roots)
            if webs is None:
                continue
            fewest = min([len(links) for _, links in webs], default=None)
            self.same(self.answers_anew(fewest_nodes, registry, roots), fewest)
            self.assertEqual(bool(webs), web_for(registry, roots) is not None)
            for tops, links in webs[:30]:
                turned = (dict(reversed(tops.items())), dict(reversed(links.items())))
                self.assertIs(is_web(registry, roots, turned), True)
                self.assertIs(is_lean(registry, roots, (tops, links)), len(links) == fewest)
                more += len(links) > fewest
            for web in webs[:3]:
                self.otherwise(registry, kits, roots, web)
        self.assertGreater(more, 100)

    def otherwise(self, registry, kits, roots, web):
        """Webs with one link, top or node otherwise are told by the test's own look."""
        tops, links = web
        versions = sorted({version for told in kits.values() for version in told}) + [(9, 9, 9)]
        wrong = [({**tops, kit: version}, links) for kit in [*tops, "zz"] for version in versions]
        wrong += [({name: tops[name] for name in tops if name != kit}, links) for kit in tops]
        for node in links:
            wrong += [(tops, {**links, node: {**links[node], kit: version}}) for kit in [*kits, "zz"] for version in versions]
            wrong += [(tops, {**links, node: {name: links[node][name] for name in links[node] if name != kit}})
                      for kit in links[node]]
            wrong.append((tops, {other: links[other] for other in links if other != node}))
        wrong += [(tops, {**links, (kit, version): {}}) for kit in [*kits, "zz"] for version in versions]
        for value in wrong:
            right = plain_is_web(kits, roots, *value)
            self.assertIs(is_web(registry, roots, value), right, value)
            if not right:
                self.assertIs(is_lean(registry, roots, value), False)

    def test_by_hand(self):
        registry, roots = Registry(HAND), {"e": ALL}
        self.assertIs(is_web(registry=registry, roots=roots, value=HAND_WEB), True)
        self.assertIs(is_lean(registry=registry, roots=roots, value=HAND_WEB), False)
        self.assertIs(is_lean(registry, roots, LEAN_WEB), True)
        self.same(fewest_nodes(registry=registry, roots=roots), 3)
        self.assertIs(is_web(registry, roots, web_for(registry=registry, roots=roots)), True)
        self.same(stuck(registry=registry, roots=roots), None)
        self.same(stuck(registry, {"e": ALL, "zz": ALL}), [])
        self.same(stuck(registry, {"e": HIGH}), [])
        self.assertIs(is_stuck(registry=registry, roots={"e": HIGH}, value=[]), True)
        self.assertIs(is_stuck(registry, roots, []), False)
        self.assertIs(is_stuck(registry, {}, []), False)
        self.same([web_for(registry, {}), fewest_nodes(registry, {}), stuck(registry, {})], [({}, {}), 0, None])
        self.assertIs(is_web(registry, {}, ({}, {})), True)
        self.assertIs(is_lean(registry, {}, ({}, {})), True)
        self.same([web_for(registry, {"zz": ALL}), fewest_nodes(registry, {"zz": ALL})], [None, None])
        self.assertIs(is_lean(registry, {"zz": ALL}, ({}, {})), False)
        ring = Registry({"a": {V1: ({"b": ALL}, {}, ())}, "b": {V1: ({"a": ALL}, {}, ()), V2: ({"zz": ALL}, {}, ())}})
        self.same(stuck(ring, {"a": ALL}), [("a", V1), ("b", V1), ("b", V2)])
        self.assertIs(is_stuck(ring, {"a": ALL}, [("b", V2), ("a", V1), ("b", V1)]), True)
        self.assertIs(is_stuck(ring, {"a": ALL}, [("a", V1), ("b", V1)]), False)
        self.assertIs(is_stuck(ring, {"b": HIGH}, (("b", V2),)), True)
        self.assertIs(is_web(ring, {"a": ALL}, ({"a": V1}, {("a", V1): {"b": V1}, ("b", V1): {"a": V1}})), False)

    def test_no_stuck_lists(self):
        ring = Registry({"a": {V1: ({"b": ALL}, {}, ())}, "b": {V1: ({"a": ALL}, {}, ())}})
        good = [("a", V1), ("b", V1)]
        for value in any_values() + [["a", V1], ("a", (True, 0, 0)), ("zz", V1), ("a", V2), ("a", V1, 1), {"a": V1}, ("b", V1)]:
            self.assertIs(is_stuck(ring, {"a": ALL}, value), False)
            self.assertIs(is_stuck(ring, {"a": ALL}, good + [value]), False)
            self.assertIs(is_stuck(ring, {"a": ALL}, [("a", V1), value]), value == ("b", V1))
        self.assertIs(is_stuck(ring, {"a": ALL}, dict(good)), False)
        self.assertIs(is_stuck(ring, {"a": ALL}, [("a", V1), ("b", (True, 0, 0))]), False)

    def test_fewest_of_many(self):
        # A chain through all versions of four kits, and kits that want nothing beside it.
        kits = {kit: {(n, 0, 0): EMPTY for n in range(1, 5 if kit != "d" else 4)} for kit in "abcd"}
        row = [(kit, (n, 0, 0)) for n in range(1, 5) for kit in "abcd" if (n, 0, 0) in kits[kit]]
        for (kit, version), (other, later) in zip(row, row[1:]):
            kits[kit][version] = ({other: Range([(later, later[:2] + (1,))])}, {}, ())
        registry, first = Registry(kits), Range([(V1, V2)])
        self.same(fewest_nodes(registry, {"a": first}), 15)
        self.assertIs(is_lean(registry, {"a": first}, web_for(registry, {"a": first})), True)
        free = {kit: {(n, 0, 0): EMPTY for n in range(1, 5 if kit != "d" else 4)} for kit in "abcd"}
        self.same(fewest_nodes(Registry(free), dict.fromkeys("abcd", ALL)), 4)
        free["a"][V1] = (dict.fromkeys("bcd", ALL), {}, ())
        self.same(fewest_nodes(Registry(free), {"a": first}), 4)


def wrong_forms():
    """Values that have not the form of a web, each with one thing otherwise."""
    tops, links = HAND_WEB
    node = ("e", V1)
    return [list(HAND_WEB), (tops, links, 1), (tops,), (list(tops.items()), links), (tops, list(links.items())),
            ({"e": (True, 0, 0)}, links), ({"e": [1, 0, 0]}, links), ({"E": V1}, links), ({"e": V1, 1: V1}, links),
            (tops, {**links, "c": {}}), (tops, {**links, ("c",): {}}), (tops, {**links, ("c", (True, 1, 1)): {}}),
            (tops, {**links, node: [("a", V1), ("c", V1)]}), (tops, {**links, node: {"a": V1, "c": [1, 0, 0]}}),
            (tops, {**links, node: {"a": V1, "c": (True, 0, 0)}}), (tops, {**links, node: None}),
            (tops, {**links, ("c", V1): ()}), (tops, {**links, ("c", V1): []}), ({}, links), (tops, {})]


class Kinds(Case):
    def test_kinds(self):
        registry, roots = Registry(HAND), {"e": ALL}
        tops, links = HAND_WEB
        node = ("e", V1)
        for value in wrong_forms():
            self.assertIs(is_web(registry, roots, value), False, value)
            self.assertIs(is_lean(registry, roots, value), False, value)
        for value in any_values():
            self.assertIs(is_web(registry, roots, value), False)
            self.assertIs(is_web(registry, roots, (value, links)), False)
            self.assertIs(is_web(registry, roots, (tops, value)), False)
            self.assertIs(is_web(registry, roots, ({"e": value}, links)), repr(value) == "(1, 0, 0)")
            self.assertIs(is_web(registry, roots, (tops, {**links, ("c", V1): value})), isinstance(value, dict) and not value)
            self.assertIs(is_web(registry, roots, (tops, {**links, node: {"a": V1, "c": value}})), repr(value) == "(1, 0, 0)")
            self.assertIs(is_lean(registry, roots, value), False)

    def test_nodes_that_are_not_there(self):
        # The form of a web is right, but a node is none of the registry.
        registry, (tops, links) = Registry(HAND), HAND_WEB
        nine, top = (9, 9, 9), ("e", V1)
        less = {node: links[node] for node in links if node != ("c", V1)}
        for tops, links in [(tops, {**less, top: {"a": V1, "c": nine}, ("c", nine): {}}),
                            (tops, {**links, top: {"a": V1, "c": V1, "zz": V1}, ("zz", V1): {}}),
                            ({"e": nine}, {("e", nine): {}}), ({"e": nine}, {("e", nine): links[top], **links}),
                            ({"e": nine}, {("e", nine): links[top], **{node: links[node] for node in links if node != top}})]:
            self.assertIs(is_web(registry, {"e": ALL}, (tops, links)), False)
            self.assertIs(is_lean(registry, {"e": ALL}, (tops, links)), False)
        self.assertIs(is_web(registry, {"zz": ALL}, ({"zz": V1}, {("zz", V1): {}})), False)

    def test_rings_and_nodes_too_many(self):
        own = Registry({"x": {V1: EMPTY, V2: ({"x": ALL}, {}, ()), V3: ({"x": HIGH}, {}, ())}})
        for tops, links, right in [
                ({"x": V1}, {("x", V1): {}}, True), ({"x": V2}, {("x", V2): {"x": V1}, ("x", V1): {}}, True),
                ({"x": V2}, {("x", V2): {"x": V2}}, False), ({"x": V2}, {("x", V2): {"x": V3}, ("x", V3): {"x": V2}}, False),
                ({"x": V3}, {("x", V3): {"x": V2}, ("x", V2): {"x": V1}, ("x", V1): {}}, True),
                ({"x": V3}, {("x", V3): {"x": V1}, ("x", V1): {}}, False), ({"x": V2}, {("x", V2): {"x": V1}}, False),
                ({"x": V1}, {("x", V1): {}, ("x", V2): {"x": V1}}, False), ({}, {("x", V1): {}}, False)]:
            self.assertIs(is_web(own, {"x": ALL}, (tops, links)), right, (tops, links))


class WebOf(Case):
    def test_installs_and_others(self):
        seen = {"web": 0, "ring": 0, "other": 0}
        for rng, kits, roots in web_cases(344, 200):
            registry, good = Registry(kits), plain_installs(kits, roots)
            for chosen in plain_sets(kits)[:60]:
                if chosen not in good:
                    seen["other"] += 1
                    self.refuses(NotSound, web_of, registry, roots, chosen)
                    continue
                links = {(kit, chosen[kit]): {other: chosen[other] for other in kits[kit][chosen[kit]][0]} for kit in chosen}
                found = self.answers_anew(web_of, registry, roots, chosen)
                if has_ring(links):
                    seen["ring"] += 1
                    self.same(found, None)
                    continue
                seen["web"] += len(links) > 1
                self.same(found, ({kit: chosen[kit] for kit in roots}, links))
                self.assertIs(is_web(registry, roots, found), True)
                self.assertIsNotNone(web_for(registry, roots))
                self.assertLessEqual(fewest_nodes(registry, roots), len(chosen))
        self.assertGreater(min(seen.values()), 20, seen)

    def test_by_hand(self):
        registry, roots = Registry(HAND), {"e": ALL}
        chosen = {"a": V1, "c": V2, "e": V1}
        self.same(web_of(registry=registry, roots=roots, chosen=chosen), LEAN_WEB)
        self.same(web_of(registry, {}, {}), ({}, {}))
        self.refuses(NotSound, web_of, registry, roots, {**chosen, "c": V1})
        self.refuses(NotSound, web_of, registry, {}, {"c": V1})
        self.refuses(BadSet, web_of, registry, roots, {"a": V2})
        own = Registry({"a": {V1: ({"a": ALL}, {}, ())}})
        self.same(web_of(own, {"a": ALL}, {"a": V1}), None)
        ring = Registry({"a": {V1: ({"b": ALL}, {}, ())}, "b": {V1: ({"a": ALL}, {}, ())}})
        self.same(web_of(ring, {"a": ALL}, {"a": V1, "b": V1}), None)

    def test_refused(self):
        registry = Registry(HAND)
        for call, more in ((is_web, [None]), (web_for, []), (stuck, []), (is_stuck, [None]), (fewest_nodes, []),
                           (is_lean, [None]), (web_of, [None])):
            self.refuses(NotRegistry, call, None, None, *more)
            self.refuses(BadRoots, call, registry, None, *more)
        for value in any_values():
            if not isinstance(value, Registry):
                self.refuses(NotRegistry, heights, value)
            if value != {} or not isinstance(value, dict):
                self.refuses(BadSet, web_of, registry, {}, value)


class AcrossRegistries(Case):
    def test_versions_come_and_go(self):
        for rng, kits, roots in web_cases(345, 80):
            registry, kit = Registry(kits), rng.choice(sorted(kits))
            later = registry.published(kit, (9, 0, 0), EMPTY)
            web = web_for(registry, roots)
            if web is not None:
                self.assertIs(is_web(later, roots, web), True)
                self.assertLessEqual(fewest_nodes(later, roots), fewest_nodes(registry, roots))
            self.assertLessEqual(set(heights(registry)), set(heights(later)))
            self.same(heights(later.withdrawn(kit, (9, 0, 0))), heights(registry))

    def test_put_together_and_called_otherwise(self):
        for rng, kits, roots in web_cases(346, 60):
            registry = Registry(kits)
            names = {kit: {"a": "v", "b": "w", "c": "x", "d": "y", "z": "zz"}[kit] for kit in registry.named}
            called, later = renamed(registry, names), {names.get(kit, kit): ranged for kit, ranged in roots.items()}
            self.same(heights(called), {(names[kit], version): height for (kit, version), height in heights(registry).items()})
            self.same(fewest_nodes(called, later), fewest_nodes(registry, roots))
            if len(kits) <= 2 and len({**roots, **later}) <= 4:
                both = together(registry, called)
                self.same(heights(both), {**heights(registry), **heights(called)})
                many = fewest_nodes(registry, roots)
                self.same(fewest_nodes(both, {**roots, **later}), None if many is None else 2 * many)


if __name__ == "__main__":
    unittest.main()
