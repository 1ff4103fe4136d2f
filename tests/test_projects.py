"""Promises [93], [94] and [95]: projects led by deeds, what they tell, blocks, copies and equality."""

import copy
import itertools
import random
import unittest

from kitwright.errors import (
    BadKit, BadManifest, BadRanked, BadState, BadVersion, InUse, KitError, LastOne, NoInstall, NoKit, NoRoot, NoVersion,
    NotRange, NotRegistry, NotSound, NothingDone, Taken, TooMany)
from kitwright.best import best_install
from kitwright.prices import cheapest_way
from kitwright.projects import Project
from kitwright.quarrels import demands_of, gifts, quarrels
from kitwright.ranges import Range
from kitwright.registries import Registry
from kitwright.sets import installs, is_sound, sound_sets
from kitwright.ways import first_way
from tests.projectdraws import NINE, Model, plain_best, project_kits, runs, some_deed
from tests.samples import (
    ALL, APP, EMPTY, HIGH, LOW, NONE, V1, V2, V3, Case, any_values, kits_dict, plain_reached, plain_sound, spoil, strict)

# Calls that no project can do, each with its error, for the project of `begun`.
BEGUN = {"app": {V1: ({"lib": LOW}, {}, ()), V2: ({"lib": HIGH}, {}, ())}, "lib": {V1: EMPTY, V2: EMPTY}, "own": {V1: EMPTY}}


def begun():
    """A project with a root, which holds two kits."""
    project = Project(Registry(BEGUN), ["own", "app", "lib"])
    project.want("app", ALL)
    return project


def do(project, deed):
    """Does a deed by the method of its name."""
    return getattr(project, deed[0])(*deed[1:])


def stands(project):
    """All that a project tells of how it stands."""
    return strict([project.registry, project.roots, project.ranked, project.held, project.log, len(project)])


class Refused(Exception):
    """An error that is none of the package."""


class ProjectCase(Case):
    def like(self, project, model):
        """The project stands as the model does."""
        self.same(kits_dict(project.registry), model.kits)
        self.same([project.roots, project.held, project.log], [model.roots, model.held, model.log])
        self.same(project.ranked, tuple(model.ranked))
        self.same(len(project), len(model.log))
        for value in (project.roots, project.held):
            self.rising(value)

    def led(self, rng, project, model, deed):
        """Does a deed with both, or sees that it is refused and changes nothing; whether it was done."""
        error, before = model.refusal(deed), stands(project)
        if error is None:
            told = strict(deed)
            self.same(do(project, deed), None)
            self.assertEqual(strict(deed), told)
            model.do(deed)
        else:
            self.refuses(error, do, project, deed)
            self.assertEqual(stands(project), before)
        return error is None


class Deeds(ProjectCase):
    def test_runs(self):
        seen = {}
        for rng, kits, ranked, model in runs(591, 60, 25):
            project = Project(Registry(kits), ranked)
            self.like(project, model)
            for _ in range(25):
                deed = some_deed(rng, model)
                error = model.refusal(deed)
                self.led(rng, project, model, deed)
                self.like(project, model)
                key = deed[0] if error is None else error.__name__
                seen[key] = seen.get(key, 0) + 1
                self.assertIs(is_sound(project.registry, project.roots, project.held), True)
                if error is None and deed[0] in ("want", "drop", "renew"):
                    self.assertIn(project.held, installs(project.registry, project.roots))
                    self.assertIs(project.is_best(), True)
        for word in ("want", "drop", "publish", "withdraw", "renew", "step", "undo", "NoInstall", "NoRoot", "Taken", "NoKit",
                     "NoVersion", "InUse", "BadState", "NotSound", "NothingDone"):
            self.assertGreater(seen.get(word, 0), 8, (word, seen))

    def test_questions(self):
        seen = {"best": 0, "worse": 0, "stale": 0, "later": 0, "why": 0, "chain": 0, "none": 0, "without": 0, "several": 0}
        for rng, kits, ranked, model in runs(592, 60, 25):
            project = Project(Registry(kits), ranked)
            for _ in range(12):
                self.led(rng, project, model, some_deed(rng, model))
                best = plain_best(model.kits, model.roots, model.ranked) == model.held
                self.assertIs(self.answers_anew(project.is_best), best)
                stale = self.answers_anew(project.stale)
                self.same(stale, model.stale())
                seen["best" if best else "worse"] += 1
                seen["stale"] += bool(stale)
                seen["later"] += any(one != other for one, other in stale.values())
                for kit in model.kits:
                    chain, roots = project.why(kit), project.without(kit)
                    self.same([chain, roots], [model.why(kit), model.without(kit)])
                    self.assertEqual(chain is None, kit not in plain_reached(model.kits, model.roots, model.held))
                    seen["none" if chain is None else "why" if len(chain) == 1 else "chain"] += 1
                    seen["without"] += len(roots) == 1
                    seen["several"] += len(model.roots) > 1 and not roots and kit in model.held
                self.like(project, model)
        self.assertGreater(min(seen.values()), 10, seen)

    def test_undo_to_the_beginning(self):
        for rng, kits, ranked, model in runs(593, 30, 15):
            project, rows = Project(Registry(kits), ranked), []
            for _ in range(15):
                before = stands(project)
                deed = some_deed(rng, model)
                if deed != ("undo",) and self.led(rng, project, model, deed):
                    rows.append(before)
            self.same(len(project), len(rows))
            for before in reversed(rows):
                self.same(project.undo(), None)
                self.assertEqual(stands(project), before)
            self.refuses(NothingDone, project.undo)
            self.assertTrue(project == Project(Registry(kits), ranked))
            self.same([project.roots, project.held, project.log, len(project)], [{}, {}, [], 0])

    def test_by_hand(self):
        project = begun()
        self.same([project.held, project.why("lib"), project.why("own")], [{"app": V2, "lib": V2}, ("app", "lib"), None])
        project.publish("app", V3, ({"zz": ALL}, {}, ()))
        self.same([project.stale(), project.is_best()], [{"app": (V3, V2)}, True])
        project.publish("lib", V3, EMPTY)
        self.same([project.stale(), project.is_best()], [{"app": (V3, V2), "lib": (V3, V3)}, False])
        self.same(project.step("lib", V3), None)
        self.same(project.is_best(), True)
        self.same(project.without("lib"), ("app",))
        project.want("lib", HIGH)
        self.same([project.without("lib"), project.why("lib"), project.without("own")], [(), ("lib",), ()])
        project.publish("new", V1, EMPTY)
        self.same(project.ranked, ("own", "app", "lib", "new"))
        project.withdraw("own", V1)
        self.same(project.ranked, ("app", "lib", "new"))
        self.same(project.log, [
            ("want", "app", ALL), ("publish", "app", V3, ({"zz": ALL}, {}, ())), ("publish", "lib", V3, EMPTY), ("step", "lib", V3),
            ("want", "lib", HIGH), ("publish", "new", V1, EMPTY), ("withdraw", "own", V1)])
        project.drop("app")
        self.same([project.held, project.roots], [{"lib": V3}, {"lib": HIGH}])
        # A want of a kit that is a root already takes the place of its range.
        project.want("lib", LOW)
        self.same([project.held, project.roots], [{"lib": V1}, {"lib": LOW}])

    def test_roots_without_which_a_kit_can_go(self):
        free = Registry({"x": {V1: ({"b": ALL}, {}, ())}, "b": {V1: EMPTY}, "c": {V1: EMPTY}})
        project = Project(free, ["x", "b", "c"])
        project.want("x", ALL)
        project.want("c", ALL)
        self.same([project.without("b"), project.without("c"), project.without("x")], [("x",), ("c",), ("x",)])
        project.want("b", ALL)
        self.same([project.without("b"), list(project.roots)], [(), ["b", "c", "x"]])
        # Each of two roots holds a kit together with the other one: the one wants it in a range, the other one bars what else is.
        both = Registry({"y": {V1: ({"d": ALL}, {}, ()), V2: ({}, {"a": ALL}, ())}, "a": {V1: EMPTY}, "d": {V1: EMPTY}})
        project = Project(both, ["y", "a", "d"])
        project.want("y", ALL)
        project.want("a", ALL)
        self.same([project.held, project.without("d")], [{"a": V1, "d": V1, "y": V1}, ("a", "y")])

    def test_kits_of_several_versions_and_no_root(self):
        project = Project(Registry(APP), ["app", "lib"])
        project.step("lib", V2)
        self.same([project.held, project.why("lib"), project.is_best(), project.stale()], [{"lib": V2}, None, False, {}])
        project.step("lib", ())
        self.same(project.held, {})
        self.refuses(NotSound, project.step, "app", V1)
        project.step("lib", V1)
        project.step("app", V1)
        self.same(project.stale(), {"app": (V2, V2), "lib": (V2, V2)})
        project.renew()
        self.same([project.held, project.log[-1]], [{}, ("renew",)])


class Errors(ProjectCase):
    def test_made(self):
        registry = Registry(APP)
        for value in any_values():
            if not isinstance(value, Registry):
                self.refuses(NotRegistry, Project, value, None)
            self.refuses(BadRanked, Project, registry, value)
        for wrong in [["app"], ["app", "lib", "lib"], ["app", "zz"], {"app": 1, "lib": 1}, "applib"]:
            self.refuses(BadRanked, Project, registry, wrong)
        self.same(Project(registry=registry, ranked=("lib", "app")).ranked, ("lib", "app"))

    def test_any_value(self):
        project = begun()
        before = stands(project)
        for value in any_values():
            is_kit = isinstance(value, str) and value in ("a", "kit", "none")
            is_v1 = repr(value) == "(1, 0, 0)"
            if not is_kit:
                self.refuses(BadKit, project.want, value, None)
                self.refuses(BadKit, project.publish, value, None, None)
            for call, more in [(project.withdraw, [None]), (project.step, [None]), (project.why, []), (project.without, [])]:
                self.refuses(NoKit, call, value, *more, kit=value)
            self.refuses(NoRoot, project.drop, value, kit=value)
            if not isinstance(value, Range):
                self.refuses(NotRange, project.want, "app", value)
            if not is_v1:
                self.refuses(BadVersion, project.publish, "new", value, None)
                self.refuses(NoVersion, project.withdraw, "lib", value, version=value)
                if not (isinstance(value, tuple) and value == ()):
                    self.refuses(BadState, project.step, "lib", value)
            self.refuses(BadManifest, project.publish, "new", V1, value)
        self.assertEqual(stands(project), before)

    def test_order(self):
        project = begun()
        self.refuses(BadKit, project.want, "A", None)
        self.refuses(NotRange, project.want, "zz", None)
        self.refuses(NoInstall, project.want, "zz", ALL)
        self.refuses(NoInstall, project.want, "own", HIGH)
        self.refuses(NoInstall, project.want, "app", NONE)
        self.refuses(BadKit, project.publish, "A", None, None)
        self.refuses(BadVersion, project.publish, "app", None, None)
        self.refuses(BadManifest, project.publish, "app", V1, None)
        self.refuses(Taken, project.publish, "app", V1, EMPTY)
        self.refuses(NoKit, project.withdraw, "zz", None, kit="zz")
        self.refuses(NoVersion, project.withdraw, "app", None, version=None)
        self.refuses(InUse, project.withdraw, "app", V2, kit="app")
        self.refuses(NoKit, project.step, "zz", None, kit="zz")
        self.refuses(BadState, project.step, "app", V2)
        self.refuses(BadState, project.step, "own", ())
        self.refuses(BadState, project.step, "own", V2)
        self.refuses(NotSound, project.step, "app", ())
        self.refuses(NotSound, project.step, "lib", V1)
        self.same(project.log, [("want", "app", ALL)])

    def test_by_name(self):
        project = Project(registry=Registry(BEGUN), ranked=["own", "app", "lib"])
        project.want(kit="app", ranged=ALL)
        project.publish(kit="lib", version=V3, manifest=EMPTY)
        project.step(kit="lib", state=V3)
        project.withdraw(kit="lib", version=V2)
        self.same([project.why(kit="lib"), project.without(kit="lib"), project.held], [("app", "lib"), ("app",), {"app": V2, "lib": V3}])
        self.same(project.tried(work=lambda same: same is project), True)
        project.drop(kit="app")
        self.same(project.held, {})

    def test_limits(self):
        kits = {kit: {V1: EMPTY} for kit in "abcde"}
        project = Project(Registry(kits), list("abcde"))
        for kit in "abcd":
            project.want(kit, ALL)
        self.refuses(NotRange, project.want, "e", None)
        self.refuses(TooMany, project.want, "e", ALL, most=4)
        self.refuses(TooMany, project.want, "zz", ALL, most=4)
        project.want("d", LOW)
        self.same(len(project.roots), 4)
        self.refuses(TooMany, project.publish, "f", V1, EMPTY, most=5)
        for n in (2, 3, 4):
            project.publish("a", (n, 0, 0), EMPTY)
        self.refuses(TooMany, project.publish, "a", (5, 0, 0), EMPTY, most=4)
        for kit, many in (("b", 4), ("c", 3), ("d", 2)):
            for n in range(2, many + 1):
                project.publish(kit, (n, 0, 0), EMPTY)
        self.refuses(TooMany, project.publish, "e", V2, EMPTY, most=600)
        one = Project(Registry({"a": {V1: EMPTY}}), ["a"])
        self.refuses(LastOne, one.withdraw, "a", V1)
        one.want("a", ALL)
        self.refuses(LastOne, one.withdraw, "a", V1)
        one.publish("b", V1, EMPTY)
        self.refuses(InUse, one.withdraw, "a", V1, kit="a")
        one.undo()
        one.undo()
        self.same(len(one), 0)


class Values(ProjectCase):
    def test_what_is_returned_is_new(self):
        project = begun()
        project.publish("lib", V3, ({"own": ALL}, {"app": LOW}, ("app",)))
        before = stands(project)
        for call in (lambda: project.registry, lambda: project.roots, lambda: project.held, lambda: project.log, project.stale):
            self.assertIsNot(call(), call())
            spoil(call())
            self.assertEqual(stands(project), before)
        self.same(project.roots, {"app": ALL})

    def test_arguments_are_copied(self):
        registry, ranked, ranged = Registry(BEGUN), ["own", "app", "lib"], Range([(V1, None)])
        manifest = ({"own": Range([(V1, None)])}, {}, ())
        project = Project(registry, ranked)
        project.want("app", ranged)
        project.publish("lib", V3, manifest)
        before = stands(project)
        spoil([registry, ranked, ranged, manifest])
        self.assertEqual(stands(project), before)
        self.same(project.log[1], ("publish", "lib", V3, ({"own": Range([(V1, None)])}, {}, ())))

    def test_no_iteration(self):
        project = begun()
        self.assertRaises(TypeError, iter, project)
        self.assertRaises(TypeError, list, project)


class Blocks(ProjectCase):
    def test_blocks(self):
        left = {"by": 0, "well": 0, "back": 0}
        for rng, kits, ranked, model in runs(594, 60, 15):
            project = Project(Registry(kits), ranked)
            for _ in range(4):
                self.led(rng, project, model, some_deed(rng, model))
            self.nested(rng, project, model, 3, left)
            self.like(project, model)
            for _ in range(3):
                self.led(rng, project, model, some_deed(rng, model))
            self.like(project, model)
        self.assertGreater(min(left.values()), 30, left)

    def nested(self, rng, project, model, depth, left):
        """Deeds in a block, and blocks in it; it is left by an exception, or not."""
        rows, fails, many = list(model.rows), rng.random() < 0.5, len(model.rows)
        try:
            with project as same:
                self.assertIs(same, project)
                for _ in range(rng.randint(0, 5)):
                    self.led(rng, project, model, some_deed(rng, model))
                    left["back"] += len(model.rows) < many
                if depth and rng.random() < 0.8:
                    self.nested(rng, project, model, depth - 1, left)
                    self.like(project, model)
                for _ in range(rng.randint(0, 2)):
                    self.led(rng, project, model, some_deed(rng, model))
                if fails:
                    raise Refused("on the way")
        except Refused:
            model.rows = rows
        left["by" if fails else "well"] += 1
        self.like(project, model)

    def test_errors_of_the_package_leave_blocks_as_well(self):
        project = begun()
        before = stands(project)
        with self.assertRaises(NoRoot):
            with project:
                project.want("own", ALL)
                project.undo()
                project.undo()
                with project:
                    project.publish("lib", V3, EMPTY)
                project.drop("zz")
        self.assertEqual(stands(project), before)
        with project:
            with self.assertRaises(KeyError):
                with project:
                    project.drop("app")
                    raise KeyError("x")
            self.assertEqual(stands(project), before)
            project.drop("app")
        self.same([project.roots, len(project)], [{}, 2])

    def test_tried(self):
        project = begun()

        def good(same):
            same.want("own", ALL)
            return [same, len(same)]

        def bad(same):
            same.undo()
            raise Refused(len(same))
        self.assertEqual(project.tried(good), [project, 2])
        before = stands(project)
        with self.assertRaises(Refused):
            project.tried(bad)
        self.assertEqual(stands(project), before)
        self.same(project.tried(lambda same: same.tried(lambda inner: inner.held)), project.held)
        self.refuses(NothingDone, project.tried, lambda same: [same.undo() for _ in range(3)])
        self.assertEqual(stands(project), before)
        self.same(project.tried(lambda same: None), None)


class Copies(ProjectCase):
    def test_copies(self):
        for rng, kits, ranked, model in runs(595, 30, 15):
            project = Project(Registry(kits), ranked)
            for _ in range(8):
                self.led(rng, project, model, some_deed(rng, model))
            other, twin = project.copy(), copy.deepcopy(model)
            self.assertTrue(other == project and other is not project)
            self.like(other, model)
            for _ in range(8):
                self.led(rng, other, twin, some_deed(rng, twin))
                self.like(project, model)
                self.like(other, twin)
            while len(other) > 0:
                other.undo()
            self.assertTrue(other == Project(Registry(kits), ranked))
            self.like(project, model)

    def test_a_copy_is_in_no_block(self):
        project = begun()
        with self.assertRaises(Refused):
            with project:
                project.drop("app")
                other = project.copy()
                project.want("own", ALL)
                raise Refused("x")
        self.same([len(project), len(other), other.roots], [1, 2, {}])
        with self.assertRaises(Refused):
            with other:
                other.undo()
                raise Refused("x")
        self.same(len(other), 2)

    def test_equal_and_unlike(self):
        registry = Registry(BEGUN)
        one = begun()
        for deed in [("want", "own", ALL), ("drop", "app"), ("publish", "lib", V3, EMPTY), ("withdraw", "own", V1), ("renew",),
                     ("step", "own", V1)]:
            other = begun()
            do(other, deed)
            self.assertTrue(one != other and not one == other)
            again = begun()
            do(again, deed)
            self.assertTrue(other == again and not other != again)
            other.undo()
            self.assertTrue(one == other)
        ranked, more = Project(registry, ["app", "own", "lib"]), Project(registry.published("lib", V3, EMPTY), ["own", "app", "lib"])
        for other in (ranked, more):
            other.want("app", ALL)
            self.assertFalse(one == other)
        # They stand alike, but their logs are not the same.
        other = begun()
        other.renew()
        self.same([other.held, other.roots], [one.held, one.roots])
        self.assertFalse(one == other)
        wider = Project(registry, ["own", "app", "lib"])
        wider.want("app", Range([(V1, None)]))
        self.assertFalse(one == wider)
        for value in any_values() + [one.log, [one]]:
            self.assertFalse(one == value or value == one)


class AcrossParts(ProjectCase):
    def test_refused_wants_are_gifts(self):
        # A want that no install meets quarrels with the roots; without those of a gift it is met.
        refused = 0
        for rng, kits, ranked, model in runs(596, 200, 10):
            project = Project(Registry(kits), ranked)
            for kit in rng.sample(sorted(kits), len(kits)) + sorted(kits):
                ranged = rng.choice([ALL, LOW, HIGH])
                rest = {other: one for other, one in project.roots.items() if other != kit}
                demands = demands_of(rest) + [("want", kit, ranged)]
                if quarrels(project.registry, demands) == []:
                    project.want(kit, ranged)
                    continue
                self.refuses(NoInstall, project.want, kit, ranged)
                for lot in gifts(project.registry, demands):
                    if len(demands) - 1 not in lot:
                        refused += 1
                        other = project.copy()
                        for at in lot:
                            other.drop(demands[at][1])
                        other.want(kit, ranged)
                        self.assertIn(kit, other.held)
                        # A gift is a least lot: with any of these roots the want would be refused still.
                        for at in lot:
                            self.refuses(NoInstall, other.want, *demands[at][1:])
        self.assertGreater(refused, 15)

    def test_projects_led_along_ways(self):
        steps = 0
        for rng, kits, ranked, model in runs(597, 60, 10):
            project = Project(Registry(kits), ranked)
            for kit in sorted(kits)[:1]:
                if model.refusal(("want", kit, ALL)) is None:
                    project.want(kit, ALL)
            registry, roots = project.registry, project.roots
            prices = {kit: (rng.randint(0, 5), rng.randint(0, 5), rng.randint(0, 9)) for kit in kits}
            for goal in rng.sample(sound_sets(registry, roots), min(4, len(sound_sets(registry, roots)))):
                for way in (first_way(registry, roots, project.held, goal),
                            (cheapest_way(registry, roots, prices, project.held, goal) or (0, None))[1]):
                    if way is None:
                        continue
                    other = project.copy()
                    for kit, state in way:
                        other.step(kit, state)
                        steps += 1
                    self.same([other.held, other.log[len(project):]], [goal, [("step", *step) for step in way]])
                    self.assertIs(other.is_best(), best_install(registry, roots, ranked) == other.held)
        self.assertGreater(steps, 100)

    def test_sets_behind_publish_and_withdraw(self):
        for rng, kits, ranked, model in runs(598, 40, 10):
            project = Project(Registry(kits), ranked)
            for _ in range(10):
                deed = some_deed(rng, model)
                before = plain_sound(model.kits, model.roots)
                if self.led(rng, project, model, deed):
                    after = sound_sets(project.registry, project.roots)
                    if deed[0] == "publish":
                        self.same([chosen for chosen in after if chosen.get(deed[1]) != deed[2]],
                                  sorted(before, key=after.index))
                    elif deed[0] == "withdraw":
                        self.same(after, [chosen for chosen in before if chosen.get(deed[1]) != deed[2]])

    def test_without_tells_nothing_of_what_every_set_has(self):
        for rng, kits, ranked, model in runs(599, 60, 8):
            project = Project(Registry(kits), ranked)
            for _ in range(8):
                self.led(rng, project, model, some_deed(rng, model))
            for kit in project.registry.kits:
                if project.without(kit) == () and all(kit in chosen for chosen in sound_sets(project.registry, project.roots)):
                    for root in project.roots:
                        less = {other: ranged for other, ranged in project.roots.items() if other != root}
                        self.assertTrue(all(kit in chosen for chosen in sound_sets(project.registry, less)))

    def test_any_call_that_is_refused_changes_nothing(self):
        rng = random.Random(600)
        for _ in range(10):
            kits = project_kits(rng)
            model = Model(kits, sorted(kits))
            project = Project(Registry(kits), sorted(kits))
            for _ in range(6):
                self.led(rng, project, model, some_deed(rng, model))
            before = stands(project)
            values = ["zz", "A", None, (), V1, NINE, ALL, EMPTY, 5]
            for word, many in (("want", 2), ("drop", 1), ("publish", 3), ("withdraw", 2), ("step", 2), ("why", 1), ("without", 1)):
                for told in itertools.product(values, repeat=many):
                    try:
                        do(project, (word, *told))
                    except KitError:
                        self.assertEqual(stands(project), before)
                    else:
                        while stands(project) != before:
                            project.undo()


if __name__ == "__main__":
    unittest.main()
