"""Promises [96] and [97]: logs of projects, judged, replayed, shortened, and with two deeds exchanged."""

import copy
import random
import unittest

from kitwright.errors import BadLog, BadNumber, BadRanked, KitError, NotProject, NotRegistry
from kitwright.projectlogs import crossed, first_wrong, log_of, replayed, shortened
from kitwright.projects import Project
from kitwright.ranges import Range
from kitwright.registries import Registry
from tests.projectdraws import NINE, Model, runs, some_deed
from tests.samples import ALL, APP, EMPTY, HIGH, LOW, V1, V2, V3, Case, any_values, kits_dict, spoil, strict
from tests.test_projects import BEGUN, do

TRUE = (True, 0, 0)
RANKED = ["own", "app", "lib"]
GOOD = [(("want", "app", ALL), {"app": V2, "lib": V2}), (("publish", "lib", V3, EMPTY), {"app": V2, "lib": V2}),
        (("step", "lib", V3), {"app": V2, "lib": V3}), (("undo",), {"app": V2, "lib": V2}), (("renew",), {"app": V2, "lib": V3}),
        (("withdraw", "own", V1), {"app": V2, "lib": V3}), (("drop", "app"), {})]


def logs(seed, many, deeds=12):
    """Quintuples of a generator, kits, ranked kits, a right log with ("undo",) in it, and the model behind it."""
    for rng, kits, ranked, model in runs(seed, many, deeds):
        log = []
        while len(log) < deeds:
            deed = some_deed(rng, model)
            if model.refusal(deed) is None:
                model.do(deed)
                log.append((deed, dict(model.held)))
        yield rng, kits, ranked, log, model


def project_of(kits, ranked, deeds):
    """A project behind some deeds."""
    project = Project(Registry(kits), ranked)
    for deed in deeds:
        do(project, deed)
    return project


# The test's own look.

def plain_first_wrong(kits, ranked, log):
    """The index of the first item that is wrong, for items of the right kinds."""
    model = Model(kits, ranked)
    for at, (deed, told) in enumerate(log):
        if model.refusal(deed) is not None:
            return at
        model.do(deed)
        if strict(told) != strict(model.held):
            return at
    return None


def plain_crossed(kits, ranked, log, at):
    """Whether two deeds can be exchanged, and lead to the same."""
    one, other = Model(kits, ranked), Model(kits, ranked)
    for deed, _ in log[:at]:
        one.do(deed)
        other.do(deed)
    for model, deeds in ((one, [log[at][0], log[at + 1][0]]), (other, [log[at + 1][0], log[at][0]])):
        for deed in deeds:
            if model.refusal(deed) is not None:
                return False
            model.do(deed)
    return strict(one.rows[-1][:4]) == strict(other.rows[-1][:4])


class LogOf(Case):
    def test_log_of(self):
        for rng, kits, ranked, log, model in logs(601, 40):
            project = project_of(kits, ranked, [deed for deed, _ in log])
            wanted = [(row[4], row[3]) for row in model.rows[1:]]
            self.same(log_of(project=project), wanted)
            found = log_of(project)
            spoil(found)
            self.same(log_of(project), wanted)
            self.same([project.log, len(project)], [[deed for deed, _ in wanted], len(wanted)])
        for value in any_values():
            if not isinstance(value, Project):
                self.refuses(NotProject, log_of, value)

    def test_in_a_block(self):
        project = project_of(BEGUN, RANKED, [deed for deed, _ in GOOD])
        with project:
            self.same(log_of(project), [item for item in GOOD if item[0] not in (("undo",), ("step", "lib", V3))])
            project.undo()
        self.same(len(log_of(project)), 4)


class FirstWrong(Case):
    def test_right_logs(self):
        for rng, kits, ranked, log, model in logs(602, 40):
            registry = Registry(kits)
            before = strict([kits, log])
            for many in range(len(log) + 1):
                self.same(first_wrong(registry, ranked, log[:many]), None)
            self.same(first_wrong(registry=registry, ranked=tuple(ranked), log=tuple(log)), None)
            self.same(strict([kits, log]), before)
            self.same(kits_dict(registry), kits)

    def test_one_item_otherwise(self):
        seen = {"right": 0, "wrong": 0, "later": 0}
        for rng, kits, ranked, log, model in logs(603, 60):
            registry = Registry(kits)
            for _ in range(12):
                at, near = rng.randrange(len(log)), list(log)
                deed, told = log[at]
                word = rng.choice(["told", "deed", "out", "twice", "exchanged"])
                if word == "told":
                    kit = rng.choice(sorted(kits))
                    near[at] = (deed, rng.choice([{}, {**told, kit: V1}, {**told, kit: V2}, {"zz": V1}]))
                elif word == "deed":
                    near[at] = (some_deed(rng, Model(kits, ranked)), told)
                elif word == "out":
                    del near[at]
                elif word == "twice":
                    near.insert(at, log[at])
                else:
                    near[at:at + 2] = near[at:at + 2][::-1]
                wanted = plain_first_wrong(kits, ranked, near)
                self.same(first_wrong(registry, ranked, near), wanted)
                seen["right" if wanted is None else "wrong" if wanted <= at else "later"] += 1
                if wanted is None:
                    self.same(len(replayed(registry, ranked, near)), sum(
                        -1 if deed == ("undo",) else 1 for deed, _ in near))
                    continue
                for call, more in [(replayed, []), (shortened, []), (crossed, [0])]:
                    self.refuses(BadLog, call, registry, ranked, near, *more, at=wanted)
        self.assertGreater(min(seen.values()), 20, seen)

    def test_any_value(self):
        registry = Registry(BEGUN)
        for value in any_values() + [GOOD[0], {0: GOOD[0]}]:
            right = isinstance(value, (list, tuple)) and len(value) == 0
            self.same(first_wrong(registry, RANKED, value), None if right else 0)
            if not right:
                self.refuses(BadLog, replayed, registry, RANKED, value, at=0)
            if value != GOOD[0]:
                self.same(first_wrong(registry, RANKED, [GOOD[0], value]), 1)
            self.same(first_wrong(registry, RANKED, [(value, {})]), 0)
            self.same(first_wrong(registry, RANKED, [(("renew",), value)]), None if value == {} and isinstance(value, dict) else 0)
            for deed in [(value,), ("want", value, ALL), ("want", "own", value), ("drop", value), ("publish", value, V3, EMPTY),
                         ("publish", "own", value, EMPTY), ("publish", "own", V3, value), ("withdraw", value, V1),
                         ("withdraw", "own", value), ("renew", value), ("step", value, V1), ("step", "own", value), ("undo", value)]:
                self.same(first_wrong(registry, RANKED, [(deed, {})]), None if self.done(registry, deed) == {} else 0)

    def done(self, registry, deed):
        """The held set behind a deed that is the first one, None if it cannot be done."""
        project = Project(registry, RANKED)
        sizes = {"want": 3, "drop": 2, "publish": 4, "withdraw": 3, "renew": 1, "step": 3, "undo": 1}
        if not isinstance(deed[0], str) or sizes.get(deed[0]) != len(deed):
            return None
        try:
            do(project, deed)
        except KitError:
            return None
        return project.held

    def test_items_that_are_near(self):
        registry = Registry(BEGUN)
        self.same(first_wrong(registry, RANKED, GOOD), None)
        deed, told = GOOD[0]
        for wrong in [(deed,), (deed, told, 1), [deed, told], (list(deed), told), (deed, list(told.items())), (deed, {**told, "own": V1}),
                      (deed, {"app": V2}), (deed, {"app": V2, "lib": (2, 0, 0, 0)}), (("wants", "app", ALL), told), (deed[:2], told),
                      (deed + (1,), told), (("want", "app", LOW), told), ((), told), (("undo",), {}), (("drop", "app"), {}),
                      (("held",), {}), (("__len__",), {}), (("copy",), {}), (("stale",), {}), (("why", "app"), {})]:
            self.same(first_wrong(registry, RANKED, [wrong, *GOOD[1:]]), 0, wrong)
            # Behind the first deed the undo and the drop are right.
            right = wrong in [(("undo",), {}), (("drop", "app"), {})]
            self.same(first_wrong(registry, RANKED, [*GOOD[:1], wrong]), None if right else 1, wrong)
        one = [(("want", "lib", LOW), {"lib": TRUE})]
        self.same(first_wrong(registry, RANKED, one), 0)
        self.same(first_wrong(registry, RANKED, [(("want", "lib", LOW), {"lib": V1})]), None)
        self.same(first_wrong(registry, RANKED, [(("step", "own", TRUE), {"own": V1})]), 0)

    def test_order_of_errors(self):
        registry = Registry(APP)
        for call, more in [(first_wrong, []), (replayed, []), (shortened, []), (crossed, [None])]:
            self.refuses(NotRegistry, call, None, None, None, *more)
            self.refuses(BadRanked, call, registry, None, None, *more)
        for call, more in [(replayed, []), (shortened, []), (crossed, [None])]:
            self.refuses(BadLog, call, registry, ["app", "lib"], None, *more, at=0)
        self.refuses(BadNumber, crossed, registry, ["app", "lib"], [], None)


class Replayed(Case):
    def test_replayed(self):
        for rng, kits, ranked, log, model in logs(604, 40):
            registry = Registry(kits)
            project = replayed(registry, ranked, log)
            self.assertTrue(project == project_of(kits, ranked, [deed for deed, _ in log]))
            self.same([kits_dict(project.registry), project.roots, project.ranked, project.held, project.log],
                      [model.kits, model.roots, tuple(model.ranked), model.held, model.log])
            told = log_of(project)
            if told:
                self.same(told[-1][1], log[-1][1])
            self.assertTrue(replayed(registry, ranked, told) == project)
            # What is done to it has no effect on what is replayed later.
            while len(project) > 0:
                project.undo()
            self.assertTrue(project == Project(registry, ranked) == replayed(registry=registry, ranked=ranked, log=[]))

    def test_arguments_are_copied(self):
        registry, log = Registry(BEGUN), copy.deepcopy(GOOD)
        project = replayed(registry, RANKED, log)
        told = strict(project)
        spoil([registry, log])
        self.assertEqual(strict(project), told)


class Shortened(Case):
    def test_shortened(self):
        shorter = 0
        for rng, kits, ranked, log, model in logs(605, 60):
            registry = Registry(kits)
            found = self.answers_anew(shortened, registry, ranked, log)
            self.same(found, [(row[4], row[3]) for row in model.rows[1:]])
            self.assertNotIn(("undo",), [deed for deed, _ in found])
            self.same(first_wrong(registry, ranked, found), None)
            self.assertTrue(replayed(registry, ranked, found) == replayed(registry, ranked, log))
            self.same(shortened(registry=registry, ranked=ranked, log=found), found)
            shorter += len(found) < len(log)
        self.assertGreater(shorter, 30)
        self.same(shortened(Registry(BEGUN), RANKED, GOOD), GOOD[:2] + GOOD[4:])
        self.same(shortened(Registry(BEGUN), RANKED, GOOD[:1] + [(("undo",), {})]), [])


class Crossed(Case):
    def test_crossed(self):
        seen = {True: 0, False: 0}
        for rng, kits, ranked, log, model in logs(606, 60):
            registry = Registry(kits)
            for at in range(len(log) - 1):
                wanted = plain_crossed(kits, ranked, log, at)
                self.assertIs(crossed(registry, ranked, log, at), wanted)
                seen[wanted] += 1
                if log[at][0][0] == log[at + 1][0][0] == "publish" and {log[at][0][1], log[at + 1][0][1]} <= set(kits):
                    self.assertIs(wanted, True)
            for value in rng.sample(any_values(), 5) + [len(log) - 1, len(log), -1, None, True]:
                if not (type(value) is int and 0 <= value < len(log) - 1):
                    self.refuses(BadNumber, crossed, registry, ranked, log, value)
        self.assertGreater(min(seen.values()), 60, seen)

    def test_two_publishes(self):
        rng = random.Random(607)
        for _ in range(30):
            registry = Registry(BEGUN)
            held = {"lib": V1}
            log = [(("step", "lib", V1), held)]
            for kit in rng.sample(["app", "lib", "own"], 2):
                log.append((("publish", kit, V3, rng.choice([EMPTY, ({"zz": ALL}, {}, ()), ({}, {"lib": HIGH}, ("own",))])), held))
            self.assertIs(crossed(registry=registry, ranked=RANKED, log=log, at=1), True)
        new = [(("publish", kit, V1, EMPTY), {}) for kit in ("x", "y")]
        # New kits come into ranked in the order in which they come.
        self.assertIs(crossed(Registry(BEGUN), RANKED, new, 0), False)
        self.refuses(BadNumber, crossed, Registry(BEGUN), RANKED, new, 1)

    def test_undo(self):
        step = [(("step", "own", V1), {"own": V1})]
        self.assertIs(crossed(Registry(BEGUN), RANKED, step + [(("undo",), {})], 0), False)
        twice = step + [(("step", "lib", V1), {"lib": V1, "own": V1}), (("undo",), {"own": V1})]
        # Behind the undo the lib stands alone, not the own kit.
        self.assertIs(crossed(Registry(BEGUN), RANKED, twice, 1), False)
        renewed = [(("renew",), {}), (("renew",), {}), (("undo",), {})]
        self.assertIs(crossed(Registry(BEGUN), RANKED, renewed, 1), True)
        self.assertIs(crossed(Registry(BEGUN), RANKED, renewed, 0), True)
        self.same(first_wrong(Registry(BEGUN), RANKED, [(("withdraw", "own", NINE), {})]), 0)


class Ranges(Case):
    def test_wide_ranges(self):
        # A range with more than 40 stretches may be passed on, as it was made by the package.
        many = Range([((n, 0, 0), (n, 0, 1)) for n in range(40)]) | Range([((n, 5, 0), (n, 5, 1)) for n in range(40)])
        project = Project(Registry(BEGUN), RANKED)
        project.want("own", many)
        self.same(project.roots, {"own": many})
        log = log_of(project)
        self.same(first_wrong(Registry(BEGUN), RANKED, log), None)
        self.assertTrue(replayed(Registry(BEGUN), RANKED, log) == project)


if __name__ == "__main__":
    unittest.main()
