"""Promise [75]: tops, their quarrels and shelves, the layouts of shelves, and those with the fewest copies."""

import itertools
import unittest

from kitwright.errors import BadTop, BadWeb, NoKit
from kitwright.layouts import copies, misfit, nested
from kitwright.registries import Registry
from kitwright.shelves import (
    copies_paper, fewest_copies, is_copies_paper, is_quarrel, is_top, quarrel, shelf, shelved, tops)
from kitwright.webs import fewest_nodes, web_for, web_of
from kitwright.sets import installs
from tests.samples import V1, V2, V3, Case, any_values
from tests.test_webs import HAND_WEB, LEAN_WEB, web_cases, wrong_forms
from tests.webdraws import KITS, plain_copies, plain_misfit, plain_nested, webs

# Two versions of a beside one another within a third one; no top of the second web is without a quarrel either.
NONE_FITS = ({"a": V1}, {("a", V1): {"a": V3}, ("a", V2): {}, ("a", V3): {"a": V2}})
NO_TOP = ({"a": V3}, {("a", V3): {"b": V2, "c": V3}, ("b", V1): {}, ("b", V2): {"b": V3, "c": V3},
                      ("b", V3): {"b": V1, "c": V3}, ("c", V3): {"b": V1}})

# The test's own look.

def plain_tops(web):
    """All tops, ascending by the ascending tuples of their pairs."""
    found = []
    kits = sorted({kit for kit, _ in web[1]})
    for row in itertools.product(*[[None] + [node for node in web[1] if node[0] == kit] for kit in kits]):
        top = dict(node for node in row if node)
        if all(top.get(kit) == web[0][kit] for kit in web[0]):
            found.append(top)
    return sorted(found, key=lambda top: tuple(sorted(top.items())))


def plain_chains(web, top, node):
    """All chains from a node of a top."""
    found, waiting = [], [[node]]
    while waiting:
        chain = waiting.pop()
        for other in web[1][chain[-1]].items():
            found.append(chain + [other])
            if top.get(other[0]) != other[1]:
                waiting.append(chain + [other])
    return found


def plain_quarrels(web, top):
    """All quarrels of a top."""
    found = []
    for node in top.items():
        for one, other in itertools.permutations(plain_chains(web, top, node), 2):
            if one[-1][0] == other[-1][0] and one[-1][1] < other[-1][1]:
                found.append((one, other))
    return found


def plain_shelf(web, top, kit):
    """The nodes at which chains end, without those of the top; None if two of them quarrel."""
    ends = {chain[-1] for chain in plain_chains(web, top, (kit, top[kit]))}
    if len({name for name, _ in ends}) < len(ends):
        return None
    return tuple(sorted(end for end in ends if top.get(end[0]) != end[1]))


def shelf_layouts(web, top):
    """All layouts with this top and folders of nodes of the web within its copies."""
    folders = [{}]
    for kit in KITS:
        nodes = [node for node in web[1] if node[0] == kit]
        folders += [{**folder, kit: (version, {})} for folder in folders for _, version in nodes]
    for row in itertools.product(folders, repeat=len(top)):
        yield {kit: (top[kit], folder) for kit, folder in zip(sorted(top), row)}


class Tops(Case):
    def test_is_top(self):
        for rng, web in webs(511, 60):
            right = plain_tops(web)
            for top in right:
                self.assertIs(is_top(web, top), True)
                self.assertIs(is_top(web=web, value=dict(reversed(top.items()))), True)
                for kit in KITS + ("zz",):
                    for version in (V1, V2, (9, 9, 9)):
                        other = {**top, kit: version}
                        self.assertIs(is_top(web, other), other in right)
                    less = {name: top[name] for name in top if name != kit}
                    self.assertIs(is_top(web, less), less in right)

    def test_any_value(self):
        for value in any_values() + [{"e": (True, 0, 0)}, {"e": list(V1)}, [("e", V1)], {"e": V1, 1: V1}, {"e": V1, "c": (2.0, 0, 0)},
                                     {"e": V1, "a": V2}, {"e": V1, "E": V1}, {"e": V1, "a": None}]:
            self.assertIs(is_top(HAND_WEB, value), False, value)
            for call, more in [(quarrel, []), (is_quarrel, [None]), (shelf, ["e"]), (shelved, [])]:
                self.refuses(BadTop, call, HAND_WEB, value, *more)

    def test_webs_that_are_none(self):
        for wrong in wrong_forms() + any_values():
            for call, more in [(is_top, [{}]), (quarrel, [{}]), (is_quarrel, [{}, None]), (shelf, [{}, "a"]), (shelved, [{}]),
                               (tops, []), (fewest_copies, []), (copies_paper, []), (is_copies_paper, [[]])]:
                self.refuses(BadWeb, call, wrong, *more)

    def test_order_of_errors(self):
        self.refuses(BadWeb, shelf, None, None, None)
        self.refuses(BadTop, shelf, HAND_WEB, None, None)
        for value in any_values() + ["a", "c"]:
            self.refuses(NoKit, shelf, HAND_WEB, {"e": V1}, value, kit=value)

    def test_tops(self):
        some = 0
        for _, web in webs(512, 200, tense=True):
            wanted = [top for top in plain_tops(web) if not plain_quarrels(web, top)]
            self.same(self.answers_anew(tops, web), wanted)
            some += 0 < len(wanted) < len(plain_tops(web))
        self.assertGreater(some, 30)
        self.same(tops(({}, {})), [{}])


class Quarrels(Case):
    def test_quarrel(self):
        seen = {"none": 0, "short": 0, "long": 0}
        for rng, web in webs(513, 250, tense=True):
            for top in rng.sample(plain_tops(web), min(4, len(plain_tops(web)))):
                wanted = plain_quarrels(web, top)
                found = self.answers_anew(quarrel, web, top)
                self.assertEqual(found is None, not wanted)
                if found is None:
                    seen["none"] += 1
                    continue
                least = min(len(one) + len(other) for one, other in wanted)
                self.assertIn(found, wanted)
                self.same(len(found[0]) + len(found[1]), least)
                self.assertEqual([type(found), type(found[0]), type(found[1])], [tuple, list, list])
                seen["long" if least > 5 else "short"] += 1
                told = {(tuple(one), tuple(other)) for one, other in wanted}
                links = {node: dict(reversed(web[1][node].items())) for node in reversed(web[1])}
                turned = (dict(reversed(web[0].items())), links)
                self.same(quarrel(turned, dict(reversed(top.items()))), found)
                for one, other in rng.sample(wanted, min(len(wanted), 2)):
                    self.assertIs(is_quarrel(web, top, (one, other)), True)
                    self.assertIs(is_quarrel(web, top, (tuple(one), other)), True)
                    self.assertIs(is_quarrel(web, top, (other, one)), False)
                    self.assertIs(is_quarrel(web, top, (one, one)), False)
                    self.assertIs(is_quarrel(web, top, [one, other]), False)
                    self.otherwise(web, top, told, one, other)
        self.assertGreater(min(seen.values()), 20, seen)

    def otherwise(self, web, top, wanted, one, other):
        """Quarrels with one node otherwise, one less or one more."""
        nodes = [*web[1], ("zz", V1), ("a", (9, 9, 9))]
        for place in range(len(one)):
            for node in nodes:
                for chain in (one[:place] + [node] + one[place + 1:], one[:place] + [node] + one[place:], one + [node]):
                    right = (tuple(chain), tuple(other)) in wanted
                    self.assertIs(is_quarrel(web, top, (chain, other)), right, chain)
            less = one[:place] + one[place + 1:]
            self.assertIs(is_quarrel(web, top, (less, other)), (tuple(less), tuple(other)) in wanted)
        self.assertIs(is_quarrel(web, top, (one[1:], other)), False)
        self.assertIs(is_quarrel(web, top, (one[:1], other)), False)

    def test_chains_from_unlike_nodes(self):
        top = {"e": V1, "a": V1}
        one, other = [("e", V1), ("c", V1)], [("a", V1), ("c", V2)]
        self.assertIs(is_quarrel(HAND_WEB, top, (one, other)), False)
        self.same(quarrel(HAND_WEB, top), None)
        self.assertIs(is_quarrel(HAND_WEB, {"e": V1}, (one, [("e", V1), ("a", V1), ("c", V2)])), True)
        # a stands on top, so that no chain goes on through it.
        self.assertIs(is_quarrel(HAND_WEB, top, (one, [("e", V1), ("a", V1), ("c", V2)])), False)

    def test_chains_that_begin_at_no_node_of_the_top(self):
        web = ({"x": V1}, {("x", V1): {"e": V1}, ("e", V1): {"a": V1, "c": V1}, ("a", V1): {"c": V2}, ("c", V1): {}, ("c", V2): {}})
        one, other = [("e", V1), ("c", V1)], [("e", V1), ("a", V1), ("c", V2)]
        self.assertIs(is_quarrel(web, {"x": V1}, ([("x", V1)] + one, [("x", V1)] + other)), True)
        self.assertIs(is_quarrel(web, {"x": V1}, (one, other)), False)
        self.assertIs(is_quarrel(web, {"x": V1, "e": V1}, (one, other)), True)
        self.assertIs(is_quarrel(web, {"x": V1, "e": V1}, ([("x", V1)] + one, [("x", V1)] + other)), False)

    def test_least_of_two_nodes(self):
        web = ({"x": V1, "y": V1}, {("x", V1): {"a": V1, "c": V1}, ("a", V1): {"b": V1}, ("b", V1): {"c": V2}, ("c", V1): {},
                                    ("c", V2): {}, ("y", V1): {"b": V1, "c": V1}})
        self.same(quarrel(web=web, top={"x": V1, "y": V1}), ([("y", V1), ("c", V1)], [("y", V1), ("b", V1), ("c", V2)]))
        self.same(quarrel(web, {"x": V1, "y": V1, "b": V1}), None)
        self.same(quarrel(web, {"x": V1, "y": V1, "c": V2}),
                  ([("y", V1), ("c", V1)], [("y", V1), ("b", V1), ("c", V2)]))

    def test_any_value(self):
        one, other = [("e", V1), ("c", V1)], [("e", V1), ("a", V1), ("c", V2)]
        self.assertIs(is_quarrel(web=HAND_WEB, top={"e": V1}, value=(one, other)), True)
        for value in any_values():
            self.assertIs(is_quarrel(HAND_WEB, {"e": V1}, value), False)
            self.assertIs(is_quarrel(HAND_WEB, {"e": V1}, (value, other)), False)
            self.assertIs(is_quarrel(HAND_WEB, {"e": V1}, (one, value)), False)
            self.assertIs(is_quarrel(HAND_WEB, {"e": V1}, (one[:1] + [value], other)), False)
            self.assertIs(is_quarrel(HAND_WEB, {"e": V1}, (one[:1] + [("c", value)], other)), repr(value) == "(1, 0, 0)")
            self.assertIs(is_quarrel(HAND_WEB, {"e": V1}, ([("e", value), one[1]], other)), repr(value) == "(1, 0, 0)")
        for wrong in [(one, other, 1), (one,), ([("e", (True, 0, 0)), ("c", V1)], other), ([["e", V1], ("c", V1)], other)]:
            self.assertIs(is_quarrel(HAND_WEB, {"e": V1}, wrong), False)


class Shelves(Case):
    def test_shelves(self):
        seen = {"none": 0, "empty": 0, "full": 0}
        for _, web in webs(514, 100):
            for top in plain_tops(web)[:20]:
                rows = {kit: plain_shelf(web, top, kit) for kit in sorted(top)}
                for kit in top:
                    self.same(shelf(web, top, kit), rows[kit])
                    seen["none" if rows[kit] is None else "full" if rows[kit] else "empty"] += 1
                found = self.answers_anew(shelved, web, top)
                if None in rows.values():
                    self.assertIsNotNone(quarrel(web, top))
                    self.same(found, None)
                    continue
                self.assertIsNone(quarrel(web, top))
                self.same(found, {kit: (top[kit], {name: (version, {}) for name, version in rows[kit]}) for kit in rows})
                self.same(misfit(web, found), None)
                self.same(plain_misfit(web, found), None)
        self.assertGreater(min(seen.values()), 60, seen)

    def test_layouts_of_shelves_by_a_trying_of_all(self):
        fits = tried = 0
        for _, web in [*webs(515, 120, most_kits=3, most_versions=2), *webs(520, 60, most_kits=3, tense=True)]:
            for top in plain_tops(web):
                if len(top) > 2 or len(web[1]) > 5:
                    continue
                least, good = shelved(web, top), []
                for layout in shelf_layouts(web, top):
                    tried += 1
                    if plain_misfit(web, layout) is None:
                        good.append(layout)
                self.assertEqual(bool(good), least is not None)
                fits += len(good)
                for layout in good[:40]:
                    for kit in top:
                        self.assertLessEqual(set(least[kit][1]), set(layout[kit][1]))
                        for name in least[kit][1]:
                            self.assertEqual(layout[kit][1][name], least[kit][1][name])
                for one, other in itertools.islice(itertools.combinations(good, 2), 60):
                    common = {kit: (top[kit], {name: pair for name, pair in one[kit][1].items() if other[kit][1].get(name) == pair})
                              for kit in top}
                    self.assertIsNone(plain_misfit(web, common))
        self.assertGreater(fits, 200)
        self.assertGreater(tried, 5000)

    def test_by_hand(self):
        top = {"e": V1, "a": V1, "c": V1}
        self.same(shelf(web=HAND_WEB, top=top, kit="a"), (("c", V2),))
        self.same([shelf(HAND_WEB, top, "e"), shelf(HAND_WEB, top, "c")], [(), ()])
        self.same(shelved(web=HAND_WEB, top=top), {"a": (V1, {"c": (V2, {})}), "c": (V1, {}), "e": (V1, {})})
        self.same(shelf(HAND_WEB, {"e": V1, "c": V2}, "e"), None)
        self.same(shelved(HAND_WEB, {"e": V1, "c": V2}), None)
        self.same(quarrel(HAND_WEB, {"e": V1, "c": V2}), ([("e", V1), ("c", V1)], [("e", V1), ("a", V1), ("c", V2)]))
        self.same(fewest_copies(web=HAND_WEB), (4, top))
        self.same(fewest_copies(LEAN_WEB), (3, {"a": V1, "c": V2, "e": V1}))
        self.same(shelved(({}, {}), {}), {})
        self.same(quarrel(({}, {}), {}), None)


class Fewest(Case):
    def test_fewest_copies(self):
        seen = {"none": 0, "more": 0, "nodes": 0}
        cases = [*webs(516, 100), *webs(521, 100, tense=True), (None, NONE_FITS), (None, NO_TOP)]
        for _, web in cases:
            rows = []
            for top in plain_tops(web):
                shelves = [plain_shelf(web, top, kit) for kit in top]
                if None not in shelves:
                    rows.append((len(top) + sum(map(len, shelves)), top))
            wanted = next((row for row in rows if row[0] == min(many for many, _ in rows)), None)
            found = self.answers_anew(fewest_copies, web)
            self.same(found, wanted)
            if found is None:
                seen["none"] += 1
                paths = plain_copies(plain_nested(web))
                if max(map(len, paths)) <= 6 and len(paths) <= 200:
                    self.same(misfit(web, nested(web)), None)
                continue
            self.assertGreaterEqual(found[0], len(web[1]))
            self.same(len(copies(shelved(web, found[1]))), found[0])
            seen["nodes" if found[0] == len(web[1]) else "more"] += 1
        self.assertGreater(min(seen.values()), 10, seen)

    def test_webs_without_a_top(self):
        for web in (NONE_FITS, NO_TOP):
            self.same(fewest_copies(web), None)
            self.same(tops(web), [])
            self.same(misfit(web, nested(web)), None)
            paper = self.answers_anew(copies_paper, web)
            self.same([top for top, _, _ in paper], plain_tops(web))
            self.assertIs(is_copies_paper(web, paper), True)
        self.same(copies_paper(NONE_FITS), [({"a": V1}, [("a", V1), ("a", V3), ("a", V2)], [("a", V1), ("a", V3)])])

    def test_papers(self):
        there = 0
        for rng, web in [*webs(517, 120, most_kits=3, tense=True), (None, NONE_FITS), (None, NO_TOP)]:
            asked = plain_tops(web)
            found = copies_paper(web)
            if tops(web):
                self.same(found, None)
                self.assertIs(is_copies_paper(web, []), False)
                continue
            there += 1
            self.same(self.answers_anew(copies_paper, web), found)
            self.same([row[0] for row in found], asked)
            self.assertTrue(all(type(row) is tuple and len(row) == 3 for row in found))
            self.assertIs(is_copies_paper(web=web, value=found), True)
            self.assertIs(is_copies_paper(web, tuple(found)), True)
            for place, (top, one, other) in enumerate(found):
                rest = found[:place], found[place + 1:]
                for wrong in [(top, other, one), (top, one, one), (top, one), [top, one, other], (top, (one, other)), None,
                              ({}, one, other), (list(top.items()), one, other), (top, one[1:], other), (top, one, other[:-1])]:
                    self.assertIs(is_copies_paper(web, rest[0] + [wrong] + rest[1]), False, wrong)
                self.assertIs(is_copies_paper(web, rest[0] + rest[1]), False)
                self.assertIs(is_copies_paper(web, found[:place] + [found[place]] + found[place:]), False)
                for pair in plain_quarrels(web, top)[:4]:
                    self.assertIs(is_copies_paper(web, rest[0] + [(top, *pair)] + rest[1]), True)
            if len(found) > 1:
                self.assertIs(is_copies_paper(web, found[::-1]), False)
        self.assertGreater(there, 20)

    def test_any_value(self):
        for web in (HAND_WEB, NONE_FITS, ({}, {})):
            for value in any_values():
                self.assertIs(is_copies_paper(web, value), False)
                self.assertIs(is_copies_paper(web, [value]), False)
                self.assertIs(is_copies_paper(web, [(value, [], [])]), False)

    def test_true_is_not_one(self):
        (top, one, other), true = copies_paper(NONE_FITS)[0], (True, 0, 0)
        self.assertIs(is_copies_paper(NONE_FITS, [(top, one, other)]), True)
        self.assertIs(is_copies_paper(NONE_FITS, [({"a": true}, one, other)]), False)
        self.assertIs(is_copies_paper(NONE_FITS, [(top, [("a", true), *one[1:]], other)]), False)
        self.assertIs(is_top(NONE_FITS, {"a": true}), False)

    def test_without_roots(self):
        self.same(fewest_copies(({}, {})), (0, {}))
        self.same(copies_paper(({}, {})), None)
        self.assertIs(is_copies_paper(({}, {}), []), False)


class AcrossRegistries(Case):
    def test_installs(self):
        many = 0
        for _, kits, roots in web_cases(518, 100):
            registry = Registry(kits)
            for chosen in installs(registry, roots)[:4]:
                web = web_of(registry, roots, chosen)
                if web is not None:
                    many += 1
                    # One version a kit: all of them on top, and no shelf has anything.
                    self.same(fewest_copies(web)[0], len(chosen))
                    self.same(shelved(web, chosen), {kit: (chosen[kit], {}) for kit in sorted(chosen)})
            web = web_for(registry, roots)
            if web is not None and fewest_copies(web) is not None:
                self.assertGreaterEqual(fewest_copies(web)[0], fewest_nodes(registry, roots))
        self.assertGreater(many, 25)

    def test_webs_side_by_side(self):
        names = {"a": "p", "b": "q"}
        for _, web in webs(519, 60, most_kits=2):
            other = ({names[kit]: version for kit, version in web[0].items()},
                     {(names[kit], version): {names[name]: links[name] for name in links}
                      for (kit, version), links in web[1].items()})
            both = ({**web[0], **other[0]}, {**web[1], **other[1]})
            one, found = fewest_copies(web), fewest_copies(both)
            self.assertEqual(found is None, one is None)
            if one is not None:
                self.same(found[0], 2 * one[0])
                self.same(len(copies(shelved(web, {kit: found[1][kit] for kit in found[1] if kit in KITS}))), one[0])


if __name__ == "__main__":
    unittest.main()
