"""Promise [72]: layouts of folders, what copies find, what fits a web, nested and lifted layouts."""

import itertools
import unittest

from kitwright.errors import BadFit, BadLayout, BadPath, BadWeb, NoKit, TooMany
from kitwright.layouts import copies, finds, is_layout, lifted, lifts, misfit, nested, settled
from kitwright.registries import Registry
from kitwright.webs import web_for, web_of
from kitwright.sets import installs
from tests.samples import ALL, EMPTY, HIGH, V1, V2, V3, Case, any_values
from tests.test_webs import HAND, HAND_WEB, LEAN_WEB, all_webs, web_cases, wrong_forms
from tests.webdraws import (
    KITS, plain_copies, plain_finds, plain_lift, plain_lifts, plain_misfit, plain_nested, some_layout, webs)

NESTED = {"e": (V1, {"a": (V1, {"c": (V2, {})}), "c": (V1, {})})}


def row(many, kit="a"):
    """A layout with one path of so many kits."""
    folder = {}
    for _ in range(many):
        folder = {kit: (V1, folder)}
    return folder


def letters(many):
    """So many different kits."""
    return ["".join(pair) for pair in itertools.islice(itertools.product("abcdefghijklmnopqrst", repeat=2), many)]


def wide(many):
    """A layout with so many copies, half of them on top, the others one further in."""
    names = letters(many)
    half = many // 2
    layout = {name: (V1, {}) for name in names[:half]}
    layout[names[0]] = (V2, {name: (V1, {}) for name in names[half:]})
    return layout


def deep_web(many, fan=1):
    """A web with paths of so many kits; each node is linked to `fan` versions of unlike kits."""
    tops, links = {"a": (many, 0, 0)}, {}
    for level in range(many, 0, -1):
        for kit in "abcde"[:fan]:
            if level < many or kit == "a":
                links[kit, (level, 0, 0)] = {other: (level - 1, 0, 0) for other in "abcde"[:fan]} if level > 1 else {}
    return tops, links


class Kinds(Case):
    def test_is_layout(self):
        for right in [{}, NESTED, row(1), row(6), {"a": ((0, 0, 0), {})}, {"a": (V1, {"a": (V1, {})})}, wide(200)]:
            self.assertIs(is_layout(right), True)
            self.same(copies(right), plain_copies(right))
        for wrong in [row(7), row(18), wide(201), {"a": (V1, row(6))}, {"a": (V1, {}), "b": (V1, row(6))}]:
            self.assertIs(is_layout(wrong), False)
            self.refuses(BadLayout, copies, wrong)
        self.same(len(copies(wide(200))), 200)

    def test_any_value(self):
        for value in any_values():
            right = isinstance(value, dict) and not value
            self.assertIs(is_layout(value), right, value)
            self.assertIs(is_layout({"a": value}), False, value)
            self.assertIs(is_layout({"a": (value, {})}), repr(value) == "(1, 0, 0)", value)
            self.assertIs(is_layout({"a": (V1, value)}), right, value)
            self.assertIs(is_layout({"a": (V1, {"b": (V1, value)}), "c": (V2, {})}), right, value)
            if value.__hash__ is not None and not isinstance(value, tuple):
                kit = isinstance(value, str) and value in ("a", "kit", "none")
                self.assertIs(is_layout({value: (V1, {})}), kit, value)
        for wrong in [{"a": [V1, {}]}, {"a": (V1, {}, 1)}, {"a": (V1,)}, {"a": (list(V1), {})}, {"A": (V1, {})},
                      {"a": ((True, 0, 0), {})}, {"a": (V1, [])}, [("a", (V1, {}))], {"a": (V1, {"b": (V1, {"c": None})})}]:
            self.assertIs(is_layout(wrong), False, wrong)
            for call, more in [(copies, []), (finds, [("a",), "b"])]:
                self.refuses(BadLayout, call, wrong, *more)
            for call, more in [(misfit, []), (lifts, []), (settled, []), (lifted, [("a", "b")])]:
                self.refuses(BadLayout, call, HAND_WEB, wrong, *more)

    def test_webs_that_are_none(self):
        for wrong in wrong_forms() + any_values():
            for call, more in [(misfit, [NESTED]), (nested, []), (lifts, [NESTED]), (settled, [NESTED]),
                               (lifted, [NESTED, ("e", "a")])]:
                self.refuses(BadWeb, call, wrong, *more)
        ring = ({"a": V1}, {("a", V1): {"b": V1}, ("b", V1): {"a": V1}})
        less = ({"e": V1}, {node: HAND_WEB[1][node] for node in HAND_WEB[1] if node != ("c", V1)})
        more = (HAND_WEB[0], {**HAND_WEB[1], ("z", V1): {}})
        five = (dict.fromkeys(KITS, V1), {(kit, V1): {} for kit in KITS})
        names = letters(6)
        six = ({names[0]: V1}, {(names[0], V1): dict.fromkeys(names[1:], V1), **{(name, V1): {} for name in names[1:]}})
        sets = ({"a": (600, 0, 0)}, {("a", (n, 0, 0)): {"a": (n - 1, 0, 0)} if n > 1 else {} for n in range(1, 601)})
        for wrong in (ring, less, more, five, six, sets):
            for call, rest in [(nested, []), (misfit, [{}]), (settled, [{}])]:
                self.refuses(BadWeb, call, wrong, *rest)

    def test_order_of_errors(self):
        self.refuses(BadWeb, misfit, None, None)
        self.refuses(BadWeb, lifted, None, None, None)
        self.refuses(BadLayout, lifted, HAND_WEB, None, None)
        self.refuses(BadFit, lifted, HAND_WEB, {}, None)
        self.refuses(BadPath, lifted, HAND_WEB, NESTED, None)
        self.refuses(BadLayout, finds, None, None, None)
        self.refuses(BadPath, finds, NESTED, None, None)
        self.refuses(NoKit, finds, NESTED, ("e",), None, kit=None)


class Finding(Case):
    def test_copies_and_finds(self):
        seen = {"own": 0, "within": 0, "out": 0, "none": 0, "beside": 0}
        for rng, web in webs(501, 150):
            layout = some_layout(rng, web)
            paths = plain_copies(layout)
            self.same(self.answers_anew(copies, layout), paths)
            for path in rng.sample(paths, min(len(paths), 12)):
                for kit in KITS:
                    found = finds(layout=layout, path=path, kit=kit)
                    self.same(found, plain_finds(layout, path, kit))
                    if found is None:
                        seen["none"] += 1
                    else:
                        seen["own"] += found == path
                        seen["within"] += len(found) > len(path)
                        seen["beside"] += len(found) == len(path) and found != path
                        seen["out"] += len(found) < len(path)
        self.assertGreater(min(seen.values()), 40, seen)

    def test_by_hand(self):
        layout = {"a": (V1, {"a": (V2, {"b": (V1, {})}), "c": (V1, {})}), "b": (V2, {})}
        for path, kit, wanted in [
                (("a",), "a", ("a", "a")), (("a", "a"), "a", ("a", "a")), (("a", "a", "b"), "a", ("a", "a")),
                (("a", "a", "b"), "b", ("a", "a", "b")), (("a", "c"), "b", ("b",)), (("a", "c"), "c", ("a", "c")),
                (("b",), "c", None), (("b",), "a", ("a",)), (("a", "a", "b"), "c", ("a", "c")), (("a",), "zz", None)]:
            self.same(finds(layout, path, kit), wanted)

    def test_paths_and_kits_that_are_none(self):
        for value in any_values() + [("e", "zz"), ("zz",), ("e", "a", "c", "c"), ["e"], ("e", ["a"]), (("e",),), ("e", 1)]:
            self.refuses(BadPath, finds, NESTED, value, "c")
            self.refuses(BadPath, lifted, HAND_WEB, NESTED, value)
            if not (isinstance(value, str) and value in ("a", "kit", "none")):
                self.refuses(NoKit, finds, NESTED, ("e", "a"), value, kit=value)
        self.refuses(BadPath, lifted, HAND_WEB, NESTED, ("e",))
        self.refuses(BadPath, lifted, HAND_WEB, NESTED, ("e", "a", "c", "zz"))


class Fitting(Case):
    def test_misfit(self):
        seen = {"fits": 0, "top": 0, "node": 0, "kit": 0}
        for rng, web in webs(502, 700):
            layout = some_layout(rng, web)
            if len(plain_copies(layout)) > 200:
                continue
            wanted = plain_misfit(web, layout)
            self.same(self.answers_anew(misfit, web, layout), wanted)
            turned = {kit: (version, dict(reversed(folder.items()))) for kit, (version, folder) in reversed(layout.items())}
            self.same(misfit(web=web, layout=turned), wanted)
            links = {node: dict(reversed(web[1][node].items())) for node in reversed(web[1])}
            self.same(misfit((dict(reversed(web[0].items())), links), layout), wanted)
            if wanted is None:
                seen["fits"] += 1
                continue
            seen["top" if wanted[0] == () else "node" if wanted[1] is None else "kit"] += 1
            for call, more in [(lifts, []), (settled, []), (lifted, [("a", "b")])]:
                self.refuses(BadFit, call, web, layout, *more)
        self.assertGreater(min(seen.values()), 25, seen)

    def test_order_of_misfits(self):
        layout = {"c": (V1, {}), "a": (V3, {"z": (V1, {})}), "b": (V1, {})}
        web = ({"x": V1, "b": V2}, {("x", V1): {}, ("b", V2): {"c": V1}, ("c", V1): {}})
        self.same(misfit(web, layout), ((), "b"))
        layout["b"] = (V2, {})
        self.same(misfit(web, layout), ((), "x"))
        layout["x"] = (V1, {})
        self.same(misfit(web, layout), (("a",), None))
        layout["a"] = (V3, {})
        self.same(misfit(web, layout), (("a",), None))
        del layout["a"]
        self.same(misfit(web, layout), None)
        layout["c"] = (V2, {})
        self.same(misfit(web, layout), (("b",), "c"))
        layout["b"] = (V2, {"c": (V1, {})})
        self.same(misfit(web, layout), (("c",), None))
        two = ({"a": V1}, {("a", V1): {"b": V1, "c": V1}, ("b", V1): {}, ("c", V1): {}})
        self.same(misfit(two, {"a": (V1, {})}), (("a",), "b"))
        self.same(misfit(two, {"a": (V1, {}), "b": (V1, {})}), (("a",), "c"))
        self.same(misfit(({}, {}), {}), None)
        self.same(misfit(({}, {}), {"a": (V1, {})}), (("a",), None))
        # It stands in a folder, but not on top.
        self.same(misfit(({"b": V1}, {("b", V1): {}}), {"a": (V1, {"b": (V1, {})})}), ((), "b"))

    def test_installs_and_webs_of_registries(self):
        many = 0
        for rng, kits, roots in web_cases(503, 120):
            registry = Registry(kits)
            for chosen in installs(registry, roots)[:5]:
                web = web_of(registry, roots, chosen)
                if web is not None:
                    many += 1
                    self.same(misfit(web, {kit: (chosen[kit], {}) for kit in chosen}), None)
            web = web_for(registry, roots)
            if web is not None and len(web[1]) < 9:
                self.same(misfit(web, nested(web)), None)
            for web in (all_webs(kits, roots) or [])[:4]:
                if max(map(len, plain_copies(plain_nested(web))), default=0) <= 6:
                    self.same(misfit(web, settled(web, nested(web))), None)
        self.assertGreater(many, 30)


class Nesting(Case):
    def test_nested(self):
        for _, web in webs(504, 200):
            wanted = plain_nested(web)
            paths = plain_copies(wanted)
            if max([len(path) for path in paths], default=0) > 6:
                self.refuses(TooMany, nested, web, most=6)
            elif len(paths) > 200:
                self.refuses(TooMany, nested, web, most=200)
            else:
                self.same(self.answers_anew(nested, web), wanted)
                self.same(misfit(web, nested(web=web)), None)

    def test_limits(self):
        self.same(nested(deep_web(6)), plain_nested(deep_web(6)))
        self.same(max(len(path) for path in copies(nested(deep_web(6)))), 6)
        self.refuses(TooMany, nested, deep_web(7), most=6)
        self.refuses(TooMany, nested, deep_web(300), most=6)
        # Far more than 200 copies, and paths of seven kits: the paths come first.
        self.refuses(TooMany, nested, deep_web(7, 3), most=6)
        self.refuses(TooMany, nested, deep_web(6, 3), most=200)
        self.same(len(copies(nested(deep_web(5, 3)))), 121)

    def test_two_hundred_and_one_more(self):
        # 121 copies of one top, and 79 or 80 of the other one.
        tops, links = deep_web(5, 3)
        rest = {("d", V3): {"a": (4, 0, 0), "b": (3, 0, 0), "c": (3, 0, 0), "d": V2},
                ("d", V2): {"a": V2, "b": V2, "c": V1, "d": V1}}
        for last, many in [({"c": V1}, 200), ({"b": V1, "c": V1}, 201)]:
            web = ({**tops, "d": V3}, {**links, **rest, ("d", V1): last})
            self.same(len(plain_copies(plain_nested(web))), many)
            if many == 200:
                found = nested(web)
                self.same([len(copies(found)), is_layout(found)], [200, True])
                self.same(misfit(web, settled(web, found)), None)
            else:
                self.refuses(TooMany, nested, web, most=200)

    def test_by_hand(self):
        self.same(nested(HAND_WEB), NESTED)
        self.same(nested(LEAN_WEB), {"e": (V1, {"a": (V1, {"c": (V2, {})}), "c": (V2, {})})})
        self.same(nested(({}, {})), {})
        self.same(lifts(({}, {}), {}), [])
        self.same(settled(({}, {}), {}), {})


class Lifting(Case):
    def test_lifts(self):
        seen = {"merged": 0, "lifted": 0, "stuck": 0, "barred": 0}
        for rng, web in webs(505, 600):
            layout = some_layout(rng, web)
            paths = plain_copies(layout)
            if plain_misfit(web, layout) is not None or len(paths) > 60 or max(map(len, paths), default=0) > 6:
                continue
            wanted = plain_lifts(web, layout)
            self.same(self.answers_anew(lifts, web, layout), sorted(wanted))
            for path in paths:
                if path in wanted:
                    found = self.answers_anew(lifted, web, layout, path)
                    self.same(found, wanted[path])
                    self.same(misfit(web, found), None)
                    self.assertLessEqual(len(copies(found)), len(paths))
                    seen["lifted" if len(copies(found)) == len(paths) else "merged"] += 1
                else:
                    self.refuses(BadPath, lifted, web, layout, path)
                    if len(path) > 1:
                        seen["barred" if plain_lift(layout, path) is None else "stuck"] += 1
        self.assertGreater(min(seen.values()), 30, seen)

    def test_settled(self):
        moved = 0
        for rng, web in webs(506, 250):
            layout = plain_nested(web)
            paths = plain_copies(layout)
            if len(paths) > 60 or max(map(len, paths), default=0) > 6:
                continue
            wanted = layout
            found = plain_lifts(web, wanted)
            while found:
                moved += 1
                wanted = found[min(found)]
                found = plain_lifts(web, wanted)
            self.same(self.answers_anew(settled, web, layout), wanted)
            self.same(settled(web=web, layout=wanted), wanted)
            self.same(lifts(web, wanted), [])
            self.same(misfit(web, wanted), None)
        self.assertGreater(moved, 200)

    def test_by_hand(self):
        self.same(lifts(web=HAND_WEB, layout=NESTED), [("e", "a"), ("e", "c")])
        first = {"a": (V1, {"c": (V2, {})}), "e": (V1, {"c": (V1, {})})}
        self.same(lifted(web=HAND_WEB, layout=NESTED, path=("e", "a")), first)
        self.same(lifts(HAND_WEB, first), [("a", "c"), ("e", "c")])
        last = {"a": (V1, {}), "c": (V2, {}), "e": (V1, {"c": (V1, {})})}
        self.same(lifted(HAND_WEB, first, ("a", "c")), last)
        self.same(settled(HAND_WEB, NESTED), last)
        self.same(lifts(HAND_WEB, last), [])
        # A copy of the same version with another folder within stands in the way, one with an equal folder does not.
        web = ({"a": V1, "b": V1}, {("a", V1): {"b": V1}, ("b", V1): {"c": V1}, ("c", V1): {}})
        one = {"a": (V1, {"b": (V1, {"c": (V1, {})})}), "b": (V1, {"c": (V1, {})})}
        self.same(lifts(web, one), [("a", "b"), ("a", "b", "c"), ("b", "c")])
        self.same(lifted(web, one, ("a", "b")), {"a": (V1, {}), "b": (V1, {"c": (V1, {})})})
        two = lifted(web, one, ("b", "c"))
        self.same(two, {"a": (V1, {"b": (V1, {"c": (V1, {})})}), "b": (V1, {}), "c": (V1, {})})
        self.same(lifts(web, two), [("a", "b", "c")])
        self.refuses(BadPath, lifted, web, two, ("a", "b"))

    def test_copy_within_a_copy_of_its_kit(self):
        web = ({"a": V2}, {("a", V2): {"a": V1}, ("a", V1): {"b": V1}, ("b", V1): {}})
        layout = {"a": (V2, {"a": (V1, {"b": (V1, {})})})}
        self.same(nested(web), layout)
        self.same(lifts(web, layout), [("a", "a", "b")])
        self.refuses(BadPath, lifted, web, layout, ("a", "a"))
        self.same(settled(web, layout), {"a": (V2, {"a": (V1, {})}), "b": (V1, {})})

    def test_many_copies(self):
        kits = "abcde"
        flat = ({"a": V1}, {(kit, V1): dict.fromkeys(kits[at + 1:], V1) for at, kit in enumerate(kits)})
        self.same(len(copies(nested(flat))), 16)
        self.same(settled(flat, nested(flat)), {kit: (V1, {}) for kit in kits})


class AcrossRegistries(Case):
    def test_registries_that_went_on(self):
        registry, roots = Registry(HAND), {"e": ALL}
        later = registry.published("c", V3, EMPTY).published("z", V1, ({"c": HIGH}, {}, ()))
        self.same(misfit(web_for(later, roots), nested(web_for(later, roots))), None)
        self.same(nested(web_for(later.withdrawn("c", V3).withdrawn("z", V1), roots)), nested(web_for(registry, roots)))
        self.same(misfit(HAND_WEB, settled(HAND_WEB, NESTED)), None)

    def test_webs_side_by_side(self):
        names = {"a": "p", "b": "q"}
        for rng, web in webs(507, 80, most_kits=2):
            other = ({names[kit]: version for kit, version in web[0].items()},
                     {(names[kit], version): {names[name]: links[name] for name in links}
                      for (kit, version), links in web[1].items()})
            both = ({**web[0], **other[0]}, {**web[1], **other[1]})
            paths = plain_copies(plain_nested(web))
            if max([len(path) for path in paths]) > 6 or len(paths) > 100:
                continue
            self.same(nested(both), {**nested(web), **nested(other)})
            self.same(settled(both, nested(both)), {**settled(web, nested(web)), **settled(other, nested(other))})
            self.same(lifts(both, nested(both)), lifts(web, nested(web)) + lifts(other, nested(other)))


if __name__ == "__main__":
    unittest.main()
