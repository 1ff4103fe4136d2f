"""The tests' own look at ways: a map is a dict from the lines of the sound sets to dicts from steps to lines."""

import random

from kitwright.ranges import Range
from tests.samples import ALL, V1, V2, V3, plain_line, plain_set, plain_sound, some_kits, some_roots, tense_kits

TWO = {"a": {V1: ({"b": Range([((0, 0, 0), V2)])}, {}, ()), V2: ({"b": Range([(V2, None)])}, {}, ())},
       "b": {V1: ({}, {}, ()), V2: ({}, {}, ())}}


def only(*versions):
    """The range of some versions alone."""
    return Range([(one, one[:2] + (1,)) for one in versions])


def maze_kits(rng):
    """Kits whose versions want and bar single versions of one another: ways are long, or there is none."""
    names = list("abcd"[:rng.randint(2, 4)])
    versions = (V1, V2, V3)[:3 if len(names) < 4 else 2]
    kits = {name: {} for name in names}
    for name in names:
        for version in versions:
            told = {other: only(*[one for one in versions if rng.random() < 0.5])
                    for other in names if other != name and rng.random() < 0.5}
            bars = {other: only(*[one for one in versions if rng.random() < 0.4])
                    for other in names if other != name and rng.random() < 0.4}
            kits[name][version] = (told if rng.random() < 0.6 else {}, bars, ())
    return kits


def maze_roots(rng, kits):
    """Roots that leave all versions of some kits, or none."""
    return {kit: ALL for kit in rng.sample(sorted(kits), rng.randint(0, min(4, len(kits))))}


def locked_kits(rng):
    """Kits without wants whose versions bar one another: with all kits as roots there are several isles."""
    names, many = rng.choice([("ab", 4), ("abc", 3), ("abc", 4), ("abcd", 3)])
    versions = (V1, V2, V3, (4, 0, 0))[:many]
    kits = {name: {} for name in names}
    for name in names:
        for version in versions:
            bars = {other: only(*[one for one in versions if rng.random() < 0.6])
                    for other in names if other > name}
            kits[name][version] = ({}, bars, ())
    return kits


def stair_kits(rng):
    """Two kits that go up like stairs, each version with two of the other kit, at times with a third kit."""
    versions = (V1, V2, V3, (4, 0, 0))
    kits = {"a": {}, "b": {version: ({}, {}, ()) for version in versions}}
    for at, version in enumerate(versions):
        right = set(versions[at:at + 2]) | {one for one in versions if rng.random() < 0.08}
        kits["a"][version] = ({"b": only(*right)}, {}, ())
    if rng.random() < 0.5:
        kits["c"] = {V1: ({}, {kit: only(rng.choice(versions)) for kit in "ab"}, ()), V2: ({}, {}, ())}
    return kits


def detour_kits(rng):
    """Kits p and q that go from V1 to V2 by V3 alone, which c or d has to make room for, at times something else."""
    kits = {"c": {V1: ({}, {}, ()), V2: ({}, {}, ())}, "d": {V1: ({}, {}, ()), V2: ({}, {}, ())}}
    kits["p"] = {V1: ({}, {"q": only(V2)}, ()), V2: ({}, {"q": only(V1)}, ()), V3: ({}, {"c": only(V1)}, ())}
    kits["q"] = {V1: ({}, {}, ()), V2: ({}, {}, ()), V3: ({}, {"d": only(V1)}, ())}
    for kit in rng.sample("cdpq", rng.randint(0, 2)):
        version, other = rng.choice(sorted(kits[kit])), rng.choice("cdpq")
        if other != kit:
            kits[kit][version][1][other] = only(rng.choice([V1, V2, V3]))
    return kits


def road_cases(seed, many):
    """Quadruples of a generator, kits, roots and the lines of the sound sets, of which there is at least one."""
    rng = random.Random(seed)
    found = 0
    while found < many:
        kind = [maze_kits, tense_kits, locked_kits, stair_kits, some_kits, locked_kits, detour_kits][found % 7]
        kits = some_kits(rng, 5, 2, 1) if found % 11 == 10 else kind(rng)
        roots = some_roots(rng, kits, most=1) if rng.random() < 0.2 else maze_roots(rng, kits)
        if kind in (locked_kits, stair_kits, detour_kits) and rng.random() < 0.85:
            roots = {kit: ALL for kit in list(kits)[:4]}
        lines = [plain_line(kits, chosen) for chosen in plain_sound(kits, roots)]
        if min(4, 1 + found % 9) <= len(lines) <= 100:
            found += 1
            yield rng, kits, roots, lines


def road_map(kits, lines):
    """For each line the dict from its steps to the lines to which they lead."""
    names = sorted(kits)
    found = {}
    for line in lines:
        found[line] = {}
        for other in lines:
            unlike = [place for place in range(len(names)) if line[place] != other[place]]
            if len(unlike) == 1:
                found[line][names[unlike[0]], other[unlike[0]]] = other
    return found


def some_pairs(rng, kits, roads, many=4):
    """Pairs of sound sets, as lines and as sets: one set twice, two that are far from one another, and others."""
    lines = sorted(roads)
    for at in range(many):
        one, other = rng.choice(lines), rng.choice(lines)
        if at == 0 and rng.random() < 0.3:
            other = one
        if at == 1:
            away = distances(roads, one)
            other = max(sorted(away), key=lambda line: away[line])
        yield one, other, plain_set(kits, one), plain_set(kits, other)


def distances(roads, goal):
    """The least numbers of steps from all lines from which a way leads to one."""
    found, border = {goal: 0}, [goal]
    while border:
        border = sorted({line for line in roads if line not in found and any(
            later in border for later in roads[line].values())})
        for line in border:
            found[line] = 1 + min(found[later] for later in roads[line].values() if later in found)
    return found


def shortest_ways(roads, one, other):
    """All shortest ways, ascending."""
    far = distances(roads, other)
    if one not in far:
        return []
    rows = [([], one)]
    for _ in range(far[one]):
        rows = [(way + [step], later) for way, line in rows for step, later in roads[line].items()
                if far[later] == far[line] - 1]
    return sorted(way for way, _ in rows)


def simple_ways(roads, one, other, most=2000):
    """All ways that pass no line twice, as lists of lines; None if there are too many."""
    found, rows, tried = [], [[one]], 0
    while rows:
        row = rows.pop()
        tried += 1
        if row[-1] == other:
            found.append(row)
        else:
            rows += [row + [later] for later in roads[row[-1]].values() if later not in row]
        if tried > most:
            return None
    return found


def walked(roads, line, way):
    """The lines of a way, by the test's own look."""
    found = [line]
    for step in way:
        found.append(roads[found[-1]][step])
    return found
