"""Webs that no registry has, drawn by a generator with a seed, and the tests' own look at layouts."""

import random

from tests.samples import V1, V2, V3

KITS = ("a", "b", "c", "d", "e")


def free_web(rng, most_kits=4, most_versions=3, tense=False):
    """A web: nodes in a row, each linked to nodes behind it, to many of them in a tense one; some stand on top."""
    nodes = [(kit, version) for kit in KITS[:rng.randint(min(2, most_kits) if tense else 1, most_kits)]
             for version in (V1, V2, V3)[:rng.randint(min(2, most_versions) if tense else 1, most_versions)]]
    rng.shuffle(nodes)
    links = {}
    for at, node in enumerate(nodes):
        kits = sorted({kit for kit, _ in nodes[at + 1:]})
        asked = rng.sample(kits, rng.randint(min(1, len(kits)) if tense else 0, min(len(kits), 3)))
        links[node] = {kit: rng.choice([version for other, version in nodes[at + 1:] if other == kit]) for kit in sorted(asked)}
    tops = dict(sorted(dict(rng.sample(nodes[:4], rng.randint(1, min(2, len(nodes))))).items()))
    return reached_web(tops, links)


def reached_web(tops, links):
    """The web with just the nodes that are reached."""
    found, waiting = set(), list(tops.items())
    while waiting:
        node = waiting.pop()
        if node not in found:
            found.add(node)
            waiting += links[node].items()
    return tops, {node: links[node] for node in sorted(found)}


def webs(seed, many, **more):
    """Pairs of a generator and a web."""
    rng = random.Random(seed)
    for _ in range(many):
        yield rng, free_web(rng, **more)


# The test's own look: layouts are walked folder by folder.

def plain_copies(layout, path=()):
    """The ascending list of the paths."""
    found = []
    for kit in sorted(layout):
        found += [path + (kit,)] + plain_copies(layout[kit][1], path + (kit,))
    return found


def folder_at(layout, path):
    """The folder within the copy with a path, the layout itself for ()."""
    for kit in path:
        layout = layout[kit][1]
    return layout


def version_at(layout, path):
    """The version of the copy with a path."""
    return folder_at(layout, path[:-1])[path[-1]][0]


def plain_finds(layout, path, kit):
    """The path of what a copy finds, looked for in folder after folder."""
    while True:
        if kit in folder_at(layout, path):
            return path + (kit,)
        if not path:
            return None
        path = path[:-1]


def plain_misfit(web, layout):
    """The least of all misfits."""
    tops, links = web
    found = [((), 1, kit) for kit in tops if kit not in layout or layout[kit][0] != tops[kit]]
    for path in plain_copies(layout):
        node = (path[-1], version_at(layout, path))
        if node not in links:
            found.append((path, 0, None))
            continue
        for kit, version in links[node].items():
            other = plain_finds(layout, path, kit)
            if other is None or version_at(layout, other) != version:
                found.append((path, 1, kit))
    return None if not found else (min(found)[0], min(found)[2])


def plain_nested(web):
    """The nested layout, folder within folder."""
    def within(promises):
        return {kit: (promises[kit], within(web[1][kit, promises[kit]])) for kit in sorted(promises)}
    return within(web[0])


def copied(layout):
    """A layout that is new at every depth."""
    return {kit: (version, copied(folder)) for kit, (version, folder) in layout.items()}


def plain_lift(layout, path):
    """The layout with a copy lifted, None where another one stands in its way."""
    layout = copied(layout)
    folder, around = folder_at(layout, path[:-1]), folder_at(layout, path[:-2])
    pair = folder[path[-1]]
    if path[-1] in around and around[path[-1]] != pair:
        return None
    del folder[path[-1]]
    around[path[-1]] = pair
    return layout


def plain_lifts(web, layout):
    """The dict from the paths that can be lifted to the layouts behind it."""
    found = {path: plain_lift(layout, path) for path in plain_copies(layout) if len(path) > 1}
    return {path: later for path, later in found.items() if later is not None and plain_misfit(web, later) is None}


def rising_layout(layout):
    """Whether the keys of all folders ascend."""
    return list(layout) == sorted(layout) and all(rising_layout(folder) for _, folder in layout.values())


def some_layout(rng, web):
    """A layout near to one that fits: the nested one, some copies lifted, some put in, taken out or exchanged."""
    layout = plain_nested(web)
    for _ in range(rng.randint(0, 6)):
        found = plain_lifts(web, layout)
        if found:
            layout = found[rng.choice(sorted(found))]
    for _ in range(rng.choice([0, 0, 1, 1, 2])):
        path = rng.choice([(), *plain_copies(layout)])
        folder = folder_at(layout, path)
        kit = rng.choice(KITS)
        word = rng.choice(["out", "in", "in", "otherwise"])
        if word == "out":
            folder.pop(kit, None)
        elif kit not in folder and word == "in" and len(path) < 6:
            folder[kit] = (rng.choice([V1, V2, V3]), {})
        elif kit in folder:
            folder[kit] = (rng.choice([V1, V2, V3]), folder[kit][1])
    return layout
