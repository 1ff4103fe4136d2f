"""Webs, in which several versions of a kit stand side by side: which promises can be given, and with how few nodes."""

from kitwright.checks import check_roots
from kitwright.clauses import versions_in
from kitwright.lots import meets_all
from kitwright.pairs import all_pairs, is_pair, wants_of
from kitwright.registries import check_registry
from kitwright.sets import check_install
from kitwright.values import is_list
from kitwright.webforms import goes_round, has_web_form


def nodes_in(registry, kit, ranged):
    """The ascending list of the nodes of any kit with a version in a range."""
    return [(kit, version) for version in versions_in(registry, kit, ranged)]


def takes(registry, node):
    """The dict from the kits that a node wants to the lists of the nodes that it may take for them."""
    wants, clashes, _ = registry.manifest(node[0], node[1])
    barred = {kit: nodes_in(registry, kit, clashes[kit]) for kit in clashes}
    return {
        kit: [other for other in nodes_in(registry, kit, wants[kit]) if other not in barred.get(kit, [])]
        for kit in wants}


def is_linked(registry, node, promises):
    """Whether a node is promised, for just the kits that it wants, what it may take."""
    if not is_pair(registry, node):
        return False
    lots = takes(registry, node)
    return sorted(promises) == sorted(lots) and all([(kit, promises[kit]) in lots[kit] for kit in lots])


def is_web(registry, roots, value):
    """Whether any value is a web for the roots."""
    check_registry(registry)
    check_roots(roots)
    if not has_web_form(value):
        return False
    tops, links = value
    if sorted(tops) != sorted(roots) or not all([is_linked(registry, node, links[node]) for node in links]):
        return False
    return all([tops[kit] in roots[kit] for kit in roots])


def good_behind(asked, found):
    """The nodes that are not among the good ones that are found, and for all that they ask may take one of these."""
    return [
        node for node in asked
        if node not in found and all([any([other in found for other in lot]) for lot in asked[node]])]


def heights(registry):
    """The dict from the nodes for which all that they want can be promised to how high these promises stand."""
    check_registry(registry)
    asked = {node: list(takes(registry, node).values()) for node in all_pairs(registry)}
    found = {}
    height = 1
    more = good_behind(asked, found)
    while more:
        for node in more:
            found[node] = height
        height += 1
        more = good_behind(asked, found)
    return {node: found[node] for node in sorted(found)}


def lowest(high, nodes):
    """The first of the good ones of some nodes with the least height, by a dict of these; None if none is good."""
    good = [(high[node], node) for node in nodes if node in high]
    return min(good)[1] if good else None


def web_for(registry, roots):
    """A web whose links lead to the lowest good nodes, None if there is no web."""
    check_registry(registry)
    check_roots(roots)
    high = heights(registry)
    waiting = [lowest(high, nodes_in(registry, kit, roots[kit])) for kit in sorted(roots)]
    if None in waiting:
        return None
    tops = {kit: version for kit, version in waiting}
    links = {}
    at = 0
    while at < len(waiting):
        lots = takes(registry, waiting[at])
        found = [lowest(high, lots[kit]) for kit in lots]
        links[waiting[at]] = {kit: version for kit, version in found}
        waiting.extend([node for node in found if node not in waiting])
        at += 1
    return tops, {node: links[node] for node in sorted(links)}


def is_blocked(registry, node, nodes):
    """Whether a node wants a kit for which all that it may take is among some nodes."""
    return any([all([other in nodes for other in lot]) for lot in list(takes(registry, node).values())])


def is_stuck(registry, roots, value):
    """Whether any value is a list of different nodes that shows that there is no web."""
    check_registry(registry)
    check_roots(roots)
    if not is_list(value) or not all([is_pair(registry, node) for node in value]) or len(set(value)) != len(value):
        return False
    if not all([is_blocked(registry, node, value) for node in value]):
        return False
    return any([all([node in value for node in nodes_in(registry, kit, roots[kit])]) for kit in roots])


def stuck(registry, roots):
    """The list of all nodes that are not good, None if there is a web."""
    if web_for(registry, roots) is not None:
        return None
    high = heights(registry)
    return [node for node in all_pairs(registry) if node not in high]


def useful_nodes(registry, roots, high):
    """The ascending list of the good nodes to which good ones in the ranges of roots can lead."""
    starts = [node for kit in roots for node in nodes_in(registry, kit, roots[kit])]
    found = [node for node in starts if node in high]
    at = 0
    while at < len(found):
        for lot in list(takes(registry, found[at]).values()):
            found.extend([node for node in lot if node in high and node not in found])
        at += 1
    return sorted(found)


def bits_of(nodes, lot):
    """Those of some nodes that are in a lot, as the bits of a number."""
    return sum([1 << place for place, node in enumerate(nodes) if node in lot])


def grown_lots(lots, asked):
    """The lots with one node more each, one for which they have all that is asked; all as the bits of numbers."""
    return sorted(set([
        lot | (1 << place) for lot in lots for place, needs in enumerate(asked)
        if not (lot >> place) & 1 and meets_all(lot, needs)]))


def fewest_nodes(registry, roots):
    """The least number of nodes of a web, None if there is none."""
    if web_for(registry, roots) is None:
        return None
    nodes = useful_nodes(registry, roots, heights(registry))
    tops = [bits_of(nodes, nodes_in(registry, kit, roots[kit])) for kit in roots]
    asked = [[bits_of(nodes, lot) for lot in list(takes(registry, node).values())] for node in nodes]
    # Nodes come behind those to which they are linked, so that nothing goes round.
    lots = [0]
    many = 0
    while not any([meets_all(lot, tops) for lot in lots]):
        lots = grown_lots(lots, asked)
        many += 1
    return many


def is_lean(registry, roots, value):
    """Whether any value is a web with as few nodes as can be."""
    return is_web(registry, roots, value) and len(value[1]) == fewest_nodes(registry, roots)


def web_of(registry, roots, chosen):
    """The web of an install, in which each kit is linked to those of the set; None if it has a ring."""
    check_install(registry, roots, chosen)
    links = {
        (kit, chosen[kit]): {other: chosen[other] for other in wants_of(registry, (kit, chosen[kit]))}
        for kit in sorted(chosen)}
    if goes_round(links):
        return None
    return {kit: chosen[kit] for kit in sorted(roots)}, links
