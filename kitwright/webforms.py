"""The form of webs, whatever the registry: which nodes are reached, and whether links go round."""

from kitwright.errors import BadWeb
from kitwright.ranges import is_kit, is_version
from kitwright.registries import MOST_KITS, MOST_SETS, MOST_TOLD
from kitwright.values import is_tuple_of


def is_node(value):
    """Whether any value is a pair of a kit and a version."""
    return is_tuple_of(value, 2) and is_kit(value[0]) and is_version(value[1])


def is_promise(value):
    """Whether any value is a dict from kits to versions."""
    return isinstance(value, dict) and all([is_node((kit, version)) for kit, version in value.items()])


def reached_nodes(tops, links):
    """The list of the nodes that are reached from the tops by links, also of those that have none told."""
    found = {(kit, version): True for kit, version in tops.items()}
    waiting = list(found)
    at = 0
    while at < len(waiting):
        for node in list(links.get(waiting[at], {}).items()):
            if node not in found:
                found[node] = True
                waiting.append(node)
        at += 1
    return waiting


def goes_round(links):
    """Whether some node is reached from itself by links; those for which none are told lead nowhere."""
    left = {node: True for node in links}
    while left:
        # Where nothing goes round, some node leads to none of those that are left.
        rest = {node: True for node in left if any([other in left for other in links[node].items()])}
        if len(rest) == len(left):
            return True
        left = rest
    return False


def are_few(nodes):
    """Whether nodes are of so few kits and versions as those of a registry."""
    kits = sorted(set([kit for kit, _ in nodes]))
    sets = 1
    for kit in kits:
        sets = sets * (len([1 for other, _ in nodes if other == kit]) + 1)
    return len(kits) <= MOST_KITS and sets <= MOST_SETS


def has_web_form(value):
    """Whether any value has the form of a web."""
    if not is_tuple_of(value, 2) or not is_promise(value[0]) or not isinstance(value[1], dict):
        return False
    tops, links = value
    if not all([is_node(node) and is_promise(links[node]) for node in links]):
        return False
    if len(tops) > MOST_TOLD or not are_few(list(links)) or goes_round(links):
        return False
    return sorted(reached_nodes(tops, links)) == sorted(links)


def check_web(web):
    """Refuses what has not the form of a web."""
    if not has_web_form(web):
        raise BadWeb("a web is wanted")
