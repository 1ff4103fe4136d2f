"""What the tests have in common: values of all kinds, small registries, and a plain reckoning of their own."""

import copy
import itertools
import unittest

from kitwright.desk import Desk
from kitwright.errors import BadRange, KitError
from kitwright.locks import Lock
from kitwright.projects import Project
from kitwright.ranges import Range
from kitwright.registries import Registry

V1, V2, V3 = (1, 0, 0), (2, 0, 0), (3, 0, 0)
ALL = Range([((0, 0, 0), None)])
NONE = Range()
LOW = Range([((0, 0, 0), V2)])
HIGH = Range([(V2, None)])
EMPTY = ({}, {}, ())


def any_values():
    """Values of all kinds that a caller can pass, new ones at each call."""
    numbers = [0, 1, 3, -1, 10 ** 99, -(10 ** 99), True, False, None]
    strings = ["", "a", "A", "kit", "abcdefghi", "1.2.3", "none", "*", "a b", "\n", "~" * 60]
    tuples = [(), (0,), (1, 0, 0), (True, 0, 0), (1, 0), (1, 0, 0, 0), ("a", V1), ((),), ((), ()), (V1, V2), (V1, None)]
    lists = [[], [1, 0, 0], [V1], ["a"], ["a", "b"], [[[[]]]], [None], [(V1, V2)], [[V1, V2]], [()], [{}]]
    dicts = [{}, {"a": 1}, {"a": (True, 0, 0)}, {"a": [1, 0, 0]}, {"a": {}}, {1: V1}, {None: None}, {(): ()},
             {"A": V1}, {V1: EMPTY}, {"a": {V1: None}}, {True: {"a": ALL}}, {"zz": V1}, {"a": NONE, 1: NONE}]
    registry = Registry({"q": {V1: EMPTY}})
    objects = [Range([(V1, V2)]), registry, KitError("x"), BadRange(3), Lock({}, {}), Project(registry, ["q"]), Desk(),
               [Range()], (Range(), Range()), {"q": Registry({"q": {V1: EMPTY}})}, {KitError("x"): 1}, {Desk(): 1},
               [Lock({}, {})], (Project(registry, ["q"]), Lock({}, {}))]
    return numbers + strings + tuples + lists + dicts + objects + [deep_value()]


def deep_value():
    """A value of twenty levels."""
    value = "deep"
    for level in range(19):
        value = [value] if level % 3 == 0 else ((value,) if level % 3 == 1 else {"a": value})
    return value


def strict(value):
    """A value told so that True is not 1 and a tuple is no list."""
    if isinstance(value, dict):
        return "dict", sorted(((strict(key), strict(worth)) for key, worth in value.items()), key=repr)
    if isinstance(value, (list, tuple)):
        return type(value).__name__, [strict(item) for item in value]
    if isinstance(value, Range):
        return "Range", strict(value.stretches)
    if isinstance(value, Registry):
        return "Registry", strict(kits_dict(value))
    if isinstance(value, Lock):
        return "Lock", strict(value.roots), strict(value.pins)
    if isinstance(value, Project):
        return "Project", strict([value.registry, value.roots, value.ranked, value.held, value.log])
    return type(value).__name__, value


def kits_dict(registry):
    """What a registry tells, as the dict with which it is made."""
    return {kit: {version: registry.manifest(kit, version) for version in registry.versions(kit)}
            for kit in registry.kits}


def spoil(value):
    """Changes all that can be changed in a value, at every depth."""
    if isinstance(value, dict):
        for item in list(value.values()):
            spoil(item)
        value.clear()
        value["spoilt"] = None
    elif isinstance(value, (list, tuple)):
        for item in value:
            spoil(item)
        if isinstance(value, list):
            value.append("spoilt")
    elif isinstance(value, Range):
        value.__init__([((7, 7, 7), None)])
    elif isinstance(value, Registry):
        value.__init__({"spoilt": {V1: EMPTY}})
    elif isinstance(value, Lock):
        value.__init__({"spoilt": Range()}, {})
    elif isinstance(value, Project):
        value.__init__(Registry({"spoilt": {V1: EMPTY}}), ["spoilt"])


class Case(unittest.TestCase):
    """A test with the checks that all tests share."""

    def refuses(self, error, call, *args, **told):
        """The call raises just this error, with these attributes."""
        try:
            found = call(*args)
        except KitError as caught:
            self.assertIs(type(caught), error, f"{call} {args}")
            for name, value in told.items():
                self.assertEqual(strict(getattr(caught, name)), strict(value), f"{call} {args}")
            return
        self.fail(f"no {error.__name__}, but {found!r} from {call} {args}")

    def same(self, found, wanted, why=None):
        """Both are equal, and of the same kinds at every depth."""
        self.assertEqual(strict(found), strict(wanted), why)

    def rising(self, value):
        """All dicts in a value have ascending keys."""
        if isinstance(value, dict):
            self.assertEqual(list(value), sorted(value))
            for item in value.values():
                self.rising(item)
        elif isinstance(value, (list, tuple)):
            for item in value:
                self.rising(item)

    def answers_anew(self, call, *args):
        """The call gives equal answers, whatever is done to an answer, leaves its arguments as they are; the answer."""
        before = strict(args)
        first = call(*args)
        told, kept = strict(first), copy.deepcopy(first)
        self.rising(first)
        self.assertEqual(strict(args), before)
        spoil(first)
        self.assertEqual(strict(args), before)
        self.assertEqual(strict(call(*args)), told)
        return kept


# The plain reckoning: a registry is the dict that it is made with, and a range is asked by its stretches.

def has(ranged, version):
    """Whether a range has a version."""
    return any(low <= version and (high is None or version < high) for low, high in ranged.stretches)


def plain_states(kits, kit):
    """The states of a kit."""
    return [()] + sorted(kits[kit])


def plain_lines(kits):
    """All lines, ascending."""
    return list(itertools.product(*[plain_states(kits, kit) for kit in sorted(kits)]))


def plain_set(kits, line):
    """The set with a line."""
    return {kit: state for kit, state in zip(sorted(kits), line) if state}


def plain_sets(kits):
    """All sets, ascending."""
    return [plain_set(kits, line) for line in plain_lines(kits)]


def plain_line(kits, chosen):
    """The line of a set."""
    return tuple(chosen.get(kit, ()) for kit in sorted(kits))


def plain_faults(kits, roots, chosen):
    """The faults of a set."""
    found = []
    for kit in roots:
        if kit not in chosen or not has(roots[kit], chosen[kit]):
            found.append(("root", kit))
    for kit in chosen:
        wants, clashes, _ = kits[kit][chosen[kit]]
        for other in wants:
            if other not in chosen or not has(wants[other], chosen[other]):
                found.append(("want", kit, other))
        for other in clashes:
            if other in chosen and has(clashes[other], chosen[other]):
                found.append(("clash", kit, other))
    return sorted(found)


def plain_sound(kits, roots):
    """All sound sets, ascending."""
    return [chosen for chosen in plain_sets(kits) if not plain_faults(kits, roots, chosen)]


def plain_reached(kits, roots, chosen):
    """The kits of a set that are reached."""
    found = {kit for kit in roots if kit in chosen}
    while True:
        more = {other for kit in found for other in kits[kit][chosen[kit]][0] if other in chosen} - found
        if not more:
            return tuple(sorted(found))
        found |= more


def plain_installs(kits, roots):
    """All installs, ascending."""
    return [chosen for chosen in plain_sound(kits, roots) if len(plain_reached(kits, roots, chosen)) == len(chosen)]


def plain_barred(clause, chosen):
    """Whether a clause bars a set."""
    return all(chosen.get(kit, ()) in states for kit, states in clause)


# Registries and what goes with them, drawn by a generator with a seed.

def some_version(rng):
    """A version near to others."""
    return rng.choice([V1, V2, V3, (1, 0, 1), (1, 2, 0), (0, 0, 0)])


def some_range(rng):
    """A range, at times an empty one."""
    ends = [(0, 0, 0), V1, (1, 0, 1), (1, 2, 0), V2, (2, 0, 1), V3, None]
    found = []
    for _ in range(rng.choice([0, 1, 1, 1, 1, 2])):
        low, high = sorted(rng.sample(range(len(ends)), 2))
        found.append((ends[low], ends[high]))
    return Range(found)


def some_ranges(rng, names, most):
    """A dict from some of the names to ranges."""
    return {name: some_range(rng) for name in rng.sample(names, rng.randint(0, min(most, len(names))))}


def some_manifest(rng, names, most=2):
    """A manifest that names some kits."""
    after = tuple(sorted(rng.sample(names, rng.randint(0, min(2, len(names))))))
    return some_ranges(rng, names, most), some_ranges(rng, names, 1 if rng.random() < 0.7 else most), after


def some_kits(rng, most_kits=3, most_versions=3, most=2, extra=("z",)):
    """A dict with which a registry can be made."""
    names = list("abcde"[:rng.randint(1, most_kits)])
    told = names + list(extra)
    kits = {}
    for name in names:
        versions = sorted({some_version(rng) for _ in range(rng.randint(1, most_versions))})
        kits[name] = {version: some_manifest(rng, told, most) for version in versions}
    return kits


def tense_kits(rng):
    """Kits without wants that bar single versions of one another: what is better here is often worse there."""
    names = list("abcd"[:rng.randint(2, 4)])
    kits = {}
    for name in names:
        kits[name] = {}
        for version in (V1, V2, V3)[:3 if len(names) < 4 else 2]:
            clashes = {other: Range([(one, one[:2] + (1,)) for one in (V1, V2, V3) if rng.random() < 0.3])
                       for other in names if other != name}
            kits[name][version] = ({}, clashes, ())
    return kits


def some_roots(rng, kits, most=2, extra=("z",)):
    """Roots, at times of a kit that is not there."""
    names = sorted(kits) + (list(extra) if rng.random() < 0.15 else [])
    return some_ranges(rng, names, most)


def some_clause(rng, kits):
    """A clause of a registry."""
    found = []
    for kit in sorted(kits):
        states = plain_states(kits, kit)
        if rng.random() < 0.6:
            found.append((kit, tuple(sorted(rng.sample(states, rng.randint(1, len(states) - 1))))))
    return tuple(found)


def all_clauses(kits):
    """All clauses of a registry."""
    choices = []
    for kit in sorted(kits):
        states = plain_states(kits, kit)
        lots = [lot for size in range(1, len(states)) for lot in itertools.combinations(states, size)]
        choices.append([()] + [((kit, lot),) for lot in lots])
    return [sum(parts, ()) for parts in itertools.product(*choices)]


# Two kits of which the one wants the other: for tests by hand.
APP = {"app": {V1: ({"lib": LOW}, {}, ()), V2: ({"lib": HIGH}, {}, ("lib",))},
       "lib": {V1: EMPTY, V2: ({}, {"app": LOW}, ())}}
