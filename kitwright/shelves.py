"""Shelves: layouts with folders within the copies on top alone, which tops have them, and with how few copies."""

from kitwright.errors import BadTop, NoKit
from kitwright.ranges import is_kit
from kitwright.values import is_list, is_tuple_of
from kitwright.webforms import check_web, is_node, is_promise


def is_top_of(web, value):
    """Whether any value is a top of a web."""
    wanted, links = web
    if not is_promise(value) or not all([node in links for node in value.items()]):
        return False
    return all([value.get(kit) == wanted[kit] for kit in wanted])


def is_top(web, value):
    """Whether any value is a top of the web."""
    check_web(web)
    return is_top_of(web, value)


def check_top(web, top):
    """Refuses what has not the form of a web, and what is no top of it."""
    check_web(web)
    if not is_top_of(web, top):
        raise BadTop("a top of the web is wanted")


def stands_on(top, node):
    """Whether a node is one of a top."""
    return top.get(node[0]) == node[1]


def ends_from(links, top, start):
    """The dict from the nodes at which chains from a node of a top end to the nodes ahead there, nearest ones first."""
    ahead = {}
    waiting = [start]
    at = 0
    while at < len(waiting):
        for node in sorted(links[waiting[at]].items()):
            if node not in ahead:
                ahead[node] = waiting[at]
                if not stands_on(top, node):
                    waiting.append(node)
        at += 1
    return ahead


def chain_back(ahead, start, end):
    """The shortest chain to one of the ends of chains from a node."""
    chain = [end]
    while chain[-1] != start:
        chain.append(ahead[chain[-1]])
    return chain[::-1]


def quarrels_from(links, top, start):
    """For each kit at two versions of which chains from a node end the quarrel of the shortest ones."""
    ahead = ends_from(links, top, start)
    ends = {}
    for node in ahead:
        ends.setdefault(node[0], []).append(node)
    # The nearest ends come first.
    pairs = [sorted(nodes[:2]) for nodes in ends.values() if len(nodes) > 1]
    return [(chain_back(ahead, start, one), chain_back(ahead, start, other)) for one, other in pairs]


def least_quarrel(web, top):
    """A quarrel of a top whose chains have as few nodes as can be, None if there is none."""
    found = [pair for start in sorted(top.items()) for pair in quarrels_from(web[1], top, start)]
    return min(found, key=lambda pair: len(pair[0]) + len(pair[1])) if found else None


def quarrel(web, top):
    """A quarrel of a top whose chains have as few nodes as can be together, None if there is none."""
    check_top(web, top)
    return least_quarrel(web, top)


def is_top_chain(web, top, value):
    """Whether any value is a chain from a node of a top."""
    if not is_list(value) or len(value) < 2 or not all([is_node(node) and node in web[1] for node in value]):
        return False
    if not stands_on(top, value[0]) or any([stands_on(top, node) for node in value[1:-1]]):
        return False
    return all([web[1][ahead].get(kit) == version for ahead, (kit, version) in zip(value, value[1:])])


def is_quarrel_of(web, top, value):
    """Whether any value is a quarrel of a top."""
    if not is_tuple_of(value, 2) or not all([is_top_chain(web, top, chain) for chain in value]):
        return False
    one, other = value
    return one[0] == other[0] and one[-1][0] == other[-1][0] and one[-1][1] < other[-1][1]


def is_quarrel(web, top, value):
    """Whether any value is a quarrel of the top."""
    check_top(web, top)
    return is_quarrel_of(web, top, value)


def shelf_of(links, top, start):
    """The ascending tuple of the nodes on the shelf of a node of a top, None if its chains quarrel."""
    ends = list(ends_from(links, top, start))
    if len(set([kit for kit, _ in ends])) < len(ends):
        return None
    return tuple(sorted([node for node in ends if not stands_on(top, node)]))


def shelves_of(web, top):
    """The dict from the kits of a top to their shelves, None if the top has a quarrel."""
    found = {kit: shelf_of(web[1], top, (kit, top[kit])) for kit in sorted(top)}
    return None if None in list(found.values()) else found


def shelf(web, top, kit):
    """The ascending tuple of the nodes that have to stand within a copy on top, None if its chains quarrel."""
    check_top(web, top)
    if not is_kit(kit) or kit not in top:
        raise NoKit(kit)
    return shelf_of(web[1], top, (kit, top[kit]))


def shelved(web, top):
    """The layout with just the shelves of a top, None if it has a quarrel."""
    check_top(web, top)
    found = shelves_of(web, top)
    if found is None:
        return None
    return {kit: (top[kit], {other: (version, {}) for other, version in found[kit]}) for kit in found}


def all_tops(web):
    """The list of all tops of a web, ascending by the ascending tuples of their pairs."""
    wanted, links = web
    rows = [()]
    for kit in sorted(set([name for name, _ in links])):
        nodes = [(node,) for node in links if node[0] == kit]
        choices = [((kit, wanted[kit]),)] if kit in wanted else [()] + nodes
        rows = [row + pairs for row in rows for pairs in choices]
    return [dict(row) for row in sorted(rows)]


def tops(web):
    """The list of all tops without quarrels, ascending by the ascending tuples of their pairs."""
    check_web(web)
    return [top for top in all_tops(web) if shelves_of(web, top) is not None]


def fewest_copies(web):
    """The least number of copies of a shelf layout that fits, and the first top that does with it, or None."""
    counts = [(top, len(top) + sum([len(nodes) for nodes in shelves_of(web, top).values()])) for top in tops(web)]
    if not counts:
        return None
    top, many = min(counts, key=lambda pair: pair[1])
    return many, top


def copies_paper(web):
    """A quarrel of each top, behind it in a triple; None if some top has none."""
    check_web(web)
    found = [(top, least_quarrel(web, top)) for top in all_tops(web)]
    if None in [pair for _, pair in found]:
        return None
    return [(top, pair[0], pair[1]) for top, pair in found]


def is_copies_paper(web, value):
    """Whether any value is a list with a quarrel of each top, ascending."""
    check_web(web)
    asked = all_tops(web)
    if not is_list(value) or len(value) != len(asked) or not all([is_tuple_of(row, 3) for row in value]):
        return False
    return all([
        is_top_of(web, top) and top == wanted and is_quarrel_of(web, top, (one, other))
        for wanted, (top, one, other) in zip(asked, value)])
