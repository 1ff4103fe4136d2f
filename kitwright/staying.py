"""What stays loaded when one set becomes another one, and what stands ahead of what in all installs."""

from kitwright.checks import check_kit, check_roots, check_set, is_set_of
from kitwright.errors import NoKit
from kitwright.loads import Load, all_orders, is_order_of
from kitwright.registries import check_registry
from kitwright.sets import installs
from kitwright.values import is_list, is_rising, is_tuple_of


def both_loads(registry, first, second):
    """The dict from the words to the loadings of two sets, behind what is no registry and what are no sets."""
    check_registry(registry)
    check_set(registry, first)
    check_set(registry, second)
    return {"first": Load(registry, first), "second": Load(registry, second)}


def is_kept(first, second, kit):
    """Whether a kit has the same version in both sets."""
    return kit in first and kit in second and first[kit] == second[kit]


def kits_of_either(first, second):
    """The ascending list of the kits of both sets."""
    return sorted(set([*first, *second]))


def follows(load, ahead, kit):
    """Whether a kit can not stay if the one ahead can not: it is of its group, or the second kit of a link from it."""
    if ahead not in load.group or kit not in load.group:
        return False
    return load.are_grouped(ahead, kit) or (ahead, kit) in load.links


def leaving_chains(first, second, loads):
    """The dict from the kits that can not stay to chains that show it."""
    kits = kits_of_either(first, second)
    chains = {kit: [(kit, "")] for kit in kits if not is_kept(first, second, kit)}
    waiting = list(chains)
    at = 0
    while at < len(waiting):
        for word, load in loads.items():
            for kit in kits:
                if kit not in chains and follows(load, waiting[at], kit):
                    chains[kit] = chains[waiting[at]] + [(kit, word)]
                    waiting.append(kit)
        at += 1
    return {kit: chains[kit] for kit in sorted(chains)}


def staying(registry, first, second):
    """The greatest lot that can stay between two sets."""
    return staying_paper(registry, first, second)[0]


def staying_paper(registry, first, second):
    """The greatest lot that can stay between two sets, and chains that show of all other kits that they can not."""
    loads = both_loads(registry, first, second)
    chains = leaving_chains(first, second, loads)
    return tuple([kit for kit in kits_of_either(first, second) if kit not in chains]), chains


def can_stay(first, second, loads, value):
    """Whether any value is a lot that can stay between two sets."""
    if not isinstance(value, tuple) or not all([kit in list(first) and is_kept(first, second, kit) for kit in value]):
        return False
    if not is_rising(value):
        return False
    return all([
        ahead in value for load in list(loads.values()) for kit in value for ahead in load.order
        if follows(load, ahead, kit)])


def is_leaving_chain(first, second, loads, kit, value):
    """Whether any value is a chain that shows that a kit can not stay."""
    if not is_list(value) or not value or not all([is_tuple_of(pair, 2) for pair in value]):
        return False
    kits = kits_of_either(first, second)
    if not all([pair[0] in kits for pair in value]) or value[-1][0] != kit:
        return False
    if is_kept(first, second, value[0][0]) or value[0][1] != "":
        return False
    return all([
        behind[1] in list(loads) and follows(loads[behind[1]], ahead[0], behind[0])
        for ahead, behind in zip(value, value[1:])])


def is_staying_paper(registry, first, second, value):
    """Whether any value is a lot that can stay, and chains that show of all other kits that they can not."""
    loads = both_loads(registry, first, second)
    if not is_tuple_of(value, 2) or not can_stay(first, second, loads, value[0]) or not isinstance(value[1], dict):
        return False
    lot, chains = value
    others = [kit for kit in kits_of_either(first, second) if kit not in lot]
    return len(chains) == len(others) and all([
        kit in chains and is_leaving_chain(first, second, loads, kit, chains[kit]) for kit in others])


def check_unlike(registry, roots, one, other):
    """Refuses what is no registry, what are no roots, and what are no unlike kits of the registry, in this order."""
    check_registry(registry)
    check_roots(roots)
    check_kit(registry, one)
    check_kit(registry, other)
    if one == other:
        raise NoKit(other)


def shared_loads(registry, roots, one, other):
    """The list of the pairs (install, loading) of all installs that have two kits, ascending."""
    return [
        (chosen, Load(registry, chosen)) for chosen in installs(registry, roots) if one in chosen and other in chosen]


def all_links(loads, one, other):
    """The list of the pairs (install, links) with links that lead from a kit to another one, where there are such."""
    found = [(chosen, load.leading(load.links, one, other)) for chosen, load in loads]
    return [(chosen, links) for chosen, links in found if links is not None]


def first_order(loads, one, other):
    """The first pair (install, order) whose order has a kit ahead of another one."""
    # The install is copied, as another order may be told of the same one.
    return [
        (dict(chosen), order) for chosen, load in loads for order in all_orders(load)
        if order.index(one) < order.index(other)][0]


def word_paper(registry, roots, one, other):
    """The word of two kits, with what shows it in all installs that have both."""
    check_unlike(registry, roots, one, other)
    loads = shared_loads(registry, roots, one, other)
    if not loads:
        return "apart", []
    ahead, behind = all_links(loads, one, other), all_links(loads, other, one)
    if len(ahead) == len(loads):
        return "ahead", ahead
    if len(behind) == len(loads):
        return "behind", behind
    return "either", [first_order(loads, one, other), first_order(loads, other, one)]


def ahead_word(registry, roots, one, other):
    """Whether a kit stands ahead of another one in all installs: "apart", "ahead", "behind" or "either"."""
    return word_paper(registry, roots, one, other)[0]


def is_pair_with(registry, chosen, value):
    """Whether any value is a pair of this set of the registry and something else."""
    return is_tuple_of(value, 2) and is_set_of(registry, value[0]) and value[0] == chosen


def are_linked(registry, loads, one, other, value):
    """Whether any value is a list of pairs of all installs, in their order, and links from a kit to another one."""
    if not is_list(value) or len(value) != len(loads):
        return False
    return all([
        is_pair_with(registry, chosen, pair) and load.leads(load.links, one, other, pair[1])
        for (chosen, load), pair in zip(loads, value)])


def is_ordered(registry, loads, one, other, value):
    """Whether any value is a pair of one of the installs and an order of it with a kit ahead of another one."""
    found = [load for chosen, load in loads if is_pair_with(registry, chosen, value)]
    return any([is_order_of(load, value[1]) for load in found]) and value[1].index(one) < value[1].index(other)


def is_word_paper(registry, roots, one, other, value):
    """Whether any value is the word that is due for two kits, with what shows it."""
    word = ahead_word(registry, roots, one, other)
    if not is_tuple_of(value, 2) or value[0] != word:
        return False
    loads, told = shared_loads(registry, roots, one, other), value[1]
    if word == "either":
        return is_list(told) and len(told) == 2 and is_ordered(
            registry, loads, one, other, told[0]) and is_ordered(registry, loads, other, one, told[1])
    if word == "behind":
        return are_linked(registry, loads, other, one, told)
    # There are no installs to tell of if the word is "apart".
    return are_linked(registry, loads, one, other, told)


def is_ahead_in_all(loads, one, other):
    """Whether some loading has two kits, and links lead from the one to the other in all that have both."""
    found = [load.leading(load.links, one, other) for load in loads if one in load.own and other in load.own]
    return len(found) > 0 and all([links is not None for links in found])


def always_ahead(registry, roots):
    """The ascending list of the pairs of unlike kits of which the first one stands ahead in all installs with both."""
    check_registry(registry)
    check_roots(roots)
    loads = [Load(registry, chosen) for chosen in installs(registry, roots)]
    return [
        (one, other) for one in registry.kits for other in registry.kits
        if one != other and is_ahead_in_all(loads, one, other)]
