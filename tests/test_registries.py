"""Promises [7] and [20]: manifests, registries, and what is made of them."""

import itertools
import random
import unittest

from kitwright.errors import (
    BadKit, BadManifest, BadNames, BadRegistry, BadVersion, CommonKit, LastOne, NoKit, NotRegistry, NoVersion, Taken,
    TooMany)
from kitwright.ranges import Range, is_kit, is_version
from kitwright.registries import Registry, is_manifest, renamed, together
from tests.samples import (
    ALL, APP, EMPTY, HIGH, LOW, NONE, V1, V2, V3, Case, any_values, kits_dict, some_kits, spoil)

V4 = (4, 0, 0)
FIVE = (5, 0, 0)
GOOD = ({"a": ALL, "b": LOW}, {"c": NONE}, ("a", "z"))


def is_range_dict(value):
    """Whether a value of any_values can be a dict of a manifest."""
    return isinstance(value, dict) and all(is_kit(kit) and isinstance(ranged, Range) for kit, ranged in value.items())


def kits_with(*counts):
    """Kits with so many versions each."""
    return {kit: {(at, 0, 0): EMPTY for at in range(count)} for kit, count in zip("abcdefg", counts)}


def plain_spot(value):
    """The spot that BadRegistry tells of a value, without a look at limits; "none" for a good one."""
    if not isinstance(value, dict) or not value or not all(is_kit(kit) for kit in value):
        return None
    for kit in sorted(value):
        versions = value[kit]
        if not isinstance(versions, dict) or not versions or not all(is_version(version) for version in versions):
            return (kit,)
    spots = [(kit, version) for kit in value for version in value[kit] if not is_manifest(value[kit][version])]
    return min(spots, default="none")


def can_be_key(value):
    """Whether a value can be a key of a dict."""
    try:
        hash(value)
    except TypeError:
        return False
    return True


class Manifests(Case):
    def test_good(self):
        four = {kit: ALL for kit in "abcd"}
        for value in [EMPTY, GOOD, (four, {}, ()), ({}, four, ()), ({}, {}, ("a", "b", "c", "d")), ({"a": NONE}, {}, ())]:
            self.assertIs(is_manifest(value), True)
        self.assertIs(is_manifest(value=GOOD), True)

    def test_one_thing_otherwise(self):
        five = {kit: ALL for kit in "abcde"}
        for value in [({}, {}), ({}, {}, (), ()), [{}, {}, ()], ({}, {}, []), ({}, {}, ["a"]), (five, {}, ()), ({}, five, ()),
                      ({}, {}, tuple("abcde")), ({}, {}, ("b", "a")), ({}, {}, ("a", "a")), ({}, {}, ("A",)),
                      ({}, {}, ("a", 1)), ({}, {}, (1, "a")), ({"A": ALL}, {}, ()), ({"": ALL}, {}, ()), ({1: ALL}, {}, ()),
                      ({"a": None}, {}, ()), ({}, {"a": ((V1, V2),)}, ()), ({}, {"a": "*"}, ()), ([], {}, ()),
                      ({}, (), ()), (None, {}, ()), ({}, {}, None), ({}, {}, "a"), ({}, {}, {"a": 1}), ((), (), ())]:
            self.assertIs(is_manifest(value), False, repr(value))

    def test_any_values(self):
        for value in any_values():
            self.assertIs(is_manifest(value), False)
            if not is_range_dict(value):
                self.assertIs(is_manifest((value, {}, ())), False)
                self.assertIs(is_manifest(({}, value, ())), False)
            if not isinstance(value, Range):
                self.assertIs(is_manifest(({"a": value}, {}, ())), False)
                self.assertIs(is_manifest(({}, {"a": ALL, "b": value}, ())), False)
            if not (isinstance(value, tuple) and all(is_kit(kit) for kit in value)):
                self.assertIs(is_manifest(({}, {}, value)), False)
            if not is_kit(value):
                self.assertIs(is_manifest(({}, {}, ("a", value))), False)


class Making(Case):
    def test_what_it_tells(self):
        registry = Registry({"lib": {V2: EMPTY, V1: GOOD}, "app": {V1: ({"x": ALL}, {"y": LOW}, ("w",))}})
        self.same(registry.kits, ("app", "lib"))
        self.same(registry.named, ("a", "app", "b", "c", "lib", "w", "x", "y", "z"))
        self.same(registry.versions("lib"), (V1, V2))
        self.same(registry.versions(kit="app"), (V1,))
        self.same(registry.manifest("lib", V1), GOOD)
        self.same(registry.manifest(kit="lib", version=V2), EMPTY)
        self.same(Registry(kits={"a": {V1: EMPTY}}).named, ("a",))

    def test_dicts_ascend(self):
        registry = Registry({"a": {V1: ({"z": ALL, "b": LOW}, {"y": ALL, "c": LOW}, ("d", "e"))}})
        self.rising(self.answers_anew(registry.manifest, "a", V1))

    def test_limits(self):
        self.assertEqual(len(Registry(kits_with(1, 1, 1, 1, 1)).kits), 5)
        for counts in [(4, 4, 4, 3), (4, 4, 3, 2, 1), (4,), (4, 4, 4)]:
            self.assertEqual(Registry(kits_with(*counts)).kits, tuple("abcde"[:len(counts)]))
        for counts in [(4, 4, 4, 4), (4, 4, 4, 2, 1), (4, 4, 3, 3, 1), (4, 4, 4, 4, 4), (3, 3, 3, 3, 2)]:
            self.refuses(TooMany, Registry, kits_with(*counts), most=600)
        self.refuses(BadRegistry, Registry, kits_with(1, 1, 1, 1, 1, 1), spot=None)
        self.refuses(BadRegistry, Registry, kits_with(1, 5), spot=("b",))

    def test_any_values(self):
        for value in any_values():
            self.refuses(BadRegistry, Registry, value, spot=plain_spot(value))
            kits = {"b": {V1: EMPTY}, "c": value}
            if plain_spot(kits) != "none":
                self.refuses(BadRegistry, Registry, kits, spot=plain_spot(kits))
            self.refuses(BadRegistry, Registry, {"b": {V2: EMPTY, V1: value}, "c": {V1: EMPTY}}, spot=("b", V1))
            if can_be_key(value):
                for kits in [{"a": {V1: EMPTY}, value: {V1: EMPTY}}, {"a": {V2: EMPTY, value: EMPTY}}]:
                    if plain_spot(kits) != "none":
                        self.refuses(BadRegistry, Registry, kits, spot=plain_spot(kits))

    def test_least_spot(self):
        bad = ({}, {}, [])
        self.refuses(BadRegistry, Registry, {"c": {}, "b": 5, "a": {V1: EMPTY}}, spot=("b",))
        self.refuses(BadRegistry, Registry, {"c": {}, "a": {V1: bad}}, spot=("c",))
        self.refuses(BadRegistry, Registry, {"c": {V1: bad}, "b": {V3: bad, V2: bad, V1: EMPTY}}, spot=("b", V2))
        self.refuses(BadRegistry, Registry, {"C": {V1: bad}, "b": {}}, spot=None)
        wrong = kits_with(4, 4, 4, 4)
        wrong["d"][(3, 0, 0)] = None
        self.refuses(BadRegistry, Registry, wrong, spot=("d", (3, 0, 0)))
        wrong["c"][(9, 0, 0)] = EMPTY
        self.refuses(BadRegistry, Registry, wrong, spot=("c",))
        self.refuses(BadRegistry, Registry, {"a": {(True, 0, 0): EMPTY}}, spot=("a",))

    def test_refused_kits_and_versions(self):
        registry = Registry(APP)
        for value in any_values():
            self.refuses(NoKit, registry.versions, value, kit=value)
            self.refuses(NoKit, registry.manifest, value, None, kit=value)
            self.refuses(NoKit, registry.withdrawn, value, None, kit=value)
            if repr(value) != "(1, 0, 0)":
                self.refuses(NoVersion, registry.manifest, "app", value, version=value)
                self.refuses(NoVersion, registry.withdrawn, "app", value, version=value)
        self.refuses(NoVersion, registry.manifest, "lib", V3, version=V3)
        self.refuses(NoKit, registry.manifest, "ap", V1, kit="ap")

    def test_equal(self):
        rng = random.Random(31)
        for _ in range(100):
            kits = some_kits(rng)
            turned = {kit: {version: tuple(dict(reversed(part.items())) if isinstance(part, dict) else part
                                           for part in kits[kit][version])
                            for version in reversed(kits[kit])} for kit in reversed(kits)}
            self.assertEqual(Registry(kits), Registry(turned))
            self.same(kits_dict(Registry(turned)), kits_dict(Registry(kits)))
        one = Registry(APP)
        self.assertNotEqual(one, Registry({"app": APP["app"]}))
        self.assertNotEqual(one, Registry({"app": APP["app"], "lib": {V1: EMPTY}}))
        self.assertNotEqual(one, Registry({"app": APP["app"], "lib": {V1: EMPTY, V2: EMPTY}}))
        self.assertNotEqual(one, Registry({"app": APP["app"], "lib": {V1: ({}, {}, ("a",)), V2: APP["lib"][V2]}}))
        self.assertNotEqual(one, Registry({"app": APP["app"], "lib": {V1: EMPTY, V2: ({}, {"app": HIGH}, ())}}))
        for value in any_values():
            self.assertIs(one == value, False)
        self.assertIs(one == APP, False)

    def test_repr(self):
        self.assertEqual(eval(repr(Registry(APP))), Registry(APP))

    def test_no_iteration(self):
        for call in (iter, list, tuple, dict, sorted):
            with self.assertRaises(TypeError):
                call(Registry(APP))

    def test_copies(self):
        rng = random.Random(32)
        for _ in range(40):
            kits = some_kits(rng)
            registry = Registry(kits)
            again = Registry(kits)
            for kit in registry.kits:
                for version in registry.versions(kit):
                    self.answers_anew(registry.manifest, kit, version)
            spoil(kits)
            self.assertEqual(registry, again)
            self.same(kits_dict(registry), kits_dict(again))


class Published(Case):
    def test_published(self):
        registry = Registry(APP)
        before = kits_dict(registry)
        later = registry.published("lib", V3, GOOD)
        self.same(kits_dict(later), {"app": APP["app"], "lib": {**APP["lib"], V3: GOOD}})
        newer = registry.published(kit="net", version=V1, manifest=GOOD)
        self.same(newer.kits, ("app", "lib", "net"))
        self.same(newer.manifest("net", V1), GOOD)
        self.same(kits_dict(registry), before)

    def test_copies(self):
        manifest = ({"a": Range([(V1, V2)])}, {}, ())
        registry = Registry(APP).published("lib", V3, manifest)
        spoil(manifest)
        self.same(registry.manifest("lib", V3), ({"a": Range([(V1, V2)])}, {}, ()))

    def test_errors_in_order(self):
        registry = Registry(APP)
        for value in any_values():
            if not is_kit(value):
                self.refuses(BadKit, registry.published, value, None, None)
            if not is_version(value):
                self.refuses(BadVersion, registry.published, "lib", value, None)
            self.refuses(BadManifest, registry.published, "lib", V1, value)
            self.refuses(BadManifest, registry.published, "new", V1, value)
        self.refuses(Taken, registry.published, "lib", V2, GOOD)
        self.refuses(BadManifest, registry.published, "lib", V2, ({}, {}))
        full = Registry(kits_with(4, 1, 1, 1, 1))
        self.refuses(Taken, full.published, "a", V2, GOOD)
        self.refuses(TooMany, full.published, "a", V4, GOOD, most=4)
        self.refuses(TooMany, full.published, "f", V4, GOOD, most=5)
        self.assertEqual(len(full.published("b", V4, GOOD).versions("b")), 2)
        wide = Registry(kits_with(4, 4, 4, 3))
        self.refuses(TooMany, wide.published, "d", V4, GOOD, most=600)
        self.refuses(TooMany, wide.published, "e", V4, GOOD, most=600)
        self.refuses(TooMany, wide.published, "a", FIVE, GOOD, most=4)

    def test_withdrawn(self):
        registry = Registry(APP)
        before = kits_dict(registry)
        less = registry.withdrawn("lib", V2)
        self.same(kits_dict(less), {"app": APP["app"], "lib": {V1: EMPTY}})
        least = less.withdrawn(kit="lib", version=V1)
        self.same(kits_dict(least), {"app": APP["app"]})
        self.same(kits_dict(registry), before)
        last = least.withdrawn("app", V1)
        self.refuses(LastOne, last.withdrawn, "app", V2)
        self.refuses(NoVersion, last.withdrawn, "app", V1, version=V1)
        self.refuses(NoKit, last.withdrawn, "lib", V1, kit="lib")

    def test_both_undo_one_another(self):
        rng = random.Random(33)
        for _ in range(100):
            registry = Registry(some_kits(rng))
            kit = rng.choice(registry.kits + ("x",))
            later = registry.published(kit, (9, 9, 9), GOOD)
            self.assertEqual(later.withdrawn(kit, (9, 9, 9)), registry)
            self.assertNotEqual(later, registry)


class Renamed(Case):
    def test_by_hand(self):
        registry = Registry({"a": {V1: ({"b": LOW, "a": ALL}, {"c": HIGH}, ("b", "c"))}, "b": {V2: EMPTY}})
        found = self.answers_anew(lambda one: kits_dict(renamed(one, {"a": "z", "b": "c", "c": "b"})), registry)
        self.same(found, {"z": {V1: ({"c": LOW, "z": ALL}, {"b": HIGH}, ("b", "c"))}, "c": {V2: EMPTY}})
        found = renamed(registry=registry, names={"a": "x", "b": "w", "c": "v"})
        self.same(found.manifest("x", V1), ({"w": LOW, "x": ALL}, {"v": HIGH}, ("v", "w")))
        self.same(found.kits, ("w", "x"))

    def test_there_and_back(self):
        rng = random.Random(34)
        for _ in range(100):
            registry = Registry(some_kits(rng))
            others = rng.sample(["a", "b", "c", "z", "aa", "zzz", "k"], len(registry.named))
            names = dict(zip(registry.named, others))
            back = {other: kit for kit, other in names.items()}
            self.assertEqual(renamed(renamed(registry, names), back), registry)

    def test_refused(self):
        registry = Registry(APP)
        good = {"app": "x", "lib": "y"}
        for value in any_values():
            if not isinstance(value, Registry):
                self.refuses(NotRegistry, renamed, value, None)
            self.refuses(BadNames, renamed, registry, value)
            if not is_kit(value):
                self.refuses(BadNames, renamed, registry, {**good, "lib": value})
        for names in [{"app": "x"}, {**good, "z": "z"}, {"app": "x", "lib": "x"}, {"app": "x", "z": "y"},
                      {"app": "x", 1: "y"}, [("app", "x"), ("lib", "y")], {"app": "x", "lib": "Y"}]:
            self.refuses(BadNames, renamed, registry, names)
        self.refuses(BadNames, renamed, Registry({"a": {V1: ({}, {}, ("b",))}}), {"a": "x"})
        self.assertEqual(renamed(Registry({"a": {V1: EMPTY}}), {"a": "a"}), Registry({"a": {V1: EMPTY}}))


class Together(Case):
    def test_by_hand(self):
        one = Registry({"a": {V1: ({"x": ALL}, {}, ())}})
        other = Registry({"b": {V1: EMPTY, V2: ({"y": ALL}, {}, ())}})
        wanted = {"a": {V1: ({"x": ALL}, {}, ())}, "b": {V1: EMPTY, V2: ({"y": ALL}, {}, ())}}
        self.same(kits_dict(together(one=one, other=other)), wanted)
        self.assertEqual(together(other, one), together(one, other))
        self.same(kits_dict(one), {"a": {V1: ({"x": ALL}, {}, ())}})

    def test_refused(self):
        registry = Registry(APP)
        for value in any_values():
            if not isinstance(value, Registry):
                self.refuses(NotRegistry, together, value, registry)
                self.refuses(NotRegistry, together, registry, value)
        one = Registry({"a": {V1: ({"m": ALL}, {"n": ALL}, ("o",))}})
        for kit, manifest in itertools.product("mno", [EMPTY, ({"z": ALL}, {}, ())]):
            self.refuses(CommonKit, together, one, Registry({kit: {V1: manifest}}), kit=kit)
            self.refuses(CommonKit, together, Registry({kit: {V1: manifest}}), one, kit=kit)
        self.refuses(CommonKit, together, one, Registry({"z": {V1: ({"o": ALL}, {}, ("n",))}}), kit="n")
        self.refuses(CommonKit, together, Registry(kits_with(1, 1, 1)), Registry(kits_with(1, 1, 1, 1)), kit="a")
        some = Registry({"v": {V1: EMPTY}, "w": {V1: EMPTY}, "x": {V1: EMPTY}})
        self.refuses(TooMany, together, Registry(kits_with(1, 1, 1)), some, most=5)
        self.refuses(TooMany, together, Registry(kits_with(4, 4, 4)), some, most=5)
        self.assertEqual(len(together(Registry(kits_with(1, 4)), some).kits), 5)
        much = Registry({"v": {V1: EMPTY}, "w": kits_with(4)["a"]})
        self.refuses(TooMany, together, Registry(kits_with(4, 4, 4)), much, most=600)
        self.assertEqual(len(together(Registry(kits_with(4, 4, 3)), Registry({"w": kits_with(4)["a"]})).kits), 4)


if __name__ == "__main__":
    unittest.main()
