"""Loading the kits of a set one behind another: groups, hints that are heeded, orders, and swaps of these."""

from kitwright.checks import check_index, check_kit_in, check_set
from kitwright.errors import BadHint, BadOrder, BadSwap, NoKit
from kitwright.loads import Load, all_orders, is_order_of, lists_from, next_kits
from kitwright.registries import check_registry
from kitwright.values import is_index, is_list, is_rising, is_tuple_of


def load_of(registry, chosen):
    """The loading of a set, behind what is no registry and what is no set."""
    check_registry(registry)
    check_set(registry, chosen)
    return Load(registry, chosen)


def groups(registry, chosen):
    """The ascending list of the groups, ascending tuples of kits."""
    load = load_of(registry, chosen)
    return sorted(set(list(load.group.values())))


def asked_load(registry, chosen, one, other):
    """The loading of a set, behind what are no kits of it as well."""
    load = load_of(registry, chosen)
    check_kit_in(chosen, one)
    check_kit_in(chosen, other)
    return load


def wanted_lot(load, kit):
    """The ascending tuple of the kits from which wants lead to one."""
    return tuple([other for other in load.order if kit in lists_from(load.own, load.wants, other)])


def group_paper(registry, chosen, one, other):
    """A ring of wants with two kits, if they are of one group; otherwise a lot with one of them and all it wants."""
    load = asked_load(registry, chosen, one, other)
    if load.are_grouped(one, other):
        there, back = lists_from(load.own, load.wants, one)[other], lists_from(load.own, load.wants, other)[one]
        return "round", [one] + [kit for _, kit in there + back]
    lot = wanted_lot(load, one)
    return "split", wanted_lot(load, other) if other in lot else lot


def is_round(load, one, other, value):
    """Whether any value is a list of kits, each wanted by the next one, from a kit to itself, with another one."""
    if not is_list(value) or not value or not all([kit in load.order for kit in value]):
        return False
    return value[0] == one and value[-1] == one and other in value and all(
        [pair in load.wants for pair in zip(value, value[1:])])


def is_split(load, one, other, value):
    """Whether any value is a lot with just one of two kits, and with each kit all kits of the set that it wants."""
    if not isinstance(value, tuple) or not all([kit in load.order for kit in value]) or not is_rising(value):
        return False
    return (one in value) != (other in value) and all([ahead in value for ahead, kit in load.wants if kit in value])


def is_group_paper(registry, chosen, one, other, value):
    """Whether any value shows that two kits are of one group, or that they are not."""
    load = asked_load(registry, chosen, one, other)
    if not is_tuple_of(value, 2):
        return False
    if value[0] == "round":
        return is_round(load, one, other, value[1])
    return value[0] == "split" and is_split(load, one, other, value[1])


def hints(registry, chosen):
    """The ascending list of the hints."""
    return load_of(registry, chosen).hints


def heeded(registry, chosen):
    """The ascending list of the heeded hints."""
    return load_of(registry, chosen).heeded


def check_hint(load, hint):
    """Refuses what is no hint of the set."""
    if hint not in load.hints:
        raise BadHint("a hint of the set is wanted")


def links_ahead(load, hint):
    """The links by the hints that are heeded ahead of one."""
    return load.links_by([pair for pair in load.heeded if pair < hint])


def against(registry, chosen, hint):
    """A list of links that leads from the second kit of a hint to the first one, None if it is heeded."""
    load = load_of(registry, chosen)
    check_hint(load, hint)
    return load.leading(links_ahead(load, hint), hint[1], hint[0])


def is_against(registry, chosen, hint, value):
    """Whether any value is a list of links that shows that a hint is not heeded."""
    load = load_of(registry, chosen)
    check_hint(load, hint)
    return load.leads(links_ahead(load, hint), hint[1], hint[0], value)


def is_order(registry, chosen, value):
    """Whether any value is an order of a set."""
    return is_order_of(load_of(registry, chosen), value)


def order_count(registry, chosen):
    """How many orders of a set there are."""
    return len(all_orders(load_of(registry, chosen)))


def order_at(registry, chosen, index):
    """The order with an index, ascending."""
    orders = all_orders(load_of(registry, chosen))
    check_index(index, len(orders))
    return orders[index]


def rule_order(registry, chosen):
    """The order in which again and again the free group with the least free kit comes, its least free kit first."""
    load = load_of(registry, chosen)
    order = ()
    for _ in load.order:
        order = order + (next_kits(load, order)[0],)
    return order


def asked_unlike(registry, chosen, one, other):
    """The loading of a set, behind what are no unlike kits of it as well."""
    load = asked_load(registry, chosen, one, other)
    if one == other:
        raise NoKit(other)
    return load


def ahead_paper(registry, chosen, one, other):
    """Links that lead from a kit to another one; if there are none, an order with the other one ahead of it."""
    load = asked_unlike(registry, chosen, one, other)
    links = load.leading(load.links, one, other)
    if links is not None:
        return "links", links
    return "order", [order for order in all_orders(load) if order.index(other) < order.index(one)][0]


def is_ahead_paper(registry, chosen, one, other, value):
    """Whether any value shows that a kit stands ahead of another one in all orders, or that it does not."""
    load = asked_unlike(registry, chosen, one, other)
    if not is_tuple_of(value, 2):
        return False
    if value[0] == "links":
        return load.leads(load.links, one, other, value[1])
    return value[0] == "order" and is_order_of(load, value[1]) and value[1].index(other) < value[1].index(one)


def check_order(load, order):
    """Refuses what is no order of the set."""
    if not is_order_of(load, order):
        raise BadOrder("an order of the set is wanted")


def kits_exchanged(load, order, at):
    """The row in which the kits of one group at an index and behind it have changed places, None if there are none."""
    if at + 1 == len(order) or not load.are_grouped(order[at], order[at + 1]):
        return None
    return order[:at] + (order[at + 1], order[at]) + order[at + 2:]


def groups_exchanged(load, order, at):
    """The row in which a group that begins at an index and the one behind it have changed places, or None."""
    middle = at + len(load.group[order[at]])
    if middle >= len(order) or (at > 0 and load.are_grouped(order[at - 1], order[at])):
        return None
    end = middle + len(load.group[order[middle]])
    return order[:at] + order[middle:end] + order[at:middle] + order[end:]


def order_behind(load, order, word, at):
    """The order behind a swap, None if it is none."""
    found = kits_exchanged(load, order, at) if word == "kits" else groups_exchanged(load, order, at)
    return found if found is not None and is_order_of(load, found) else None


def swapped(registry, chosen, order, swap):
    """The order behind a swap."""
    load = load_of(registry, chosen)
    check_order(load, order)
    if not is_tuple_of(swap, 2) or swap[0] not in ("kits", "groups") or not is_index(swap[1], len(order)):
        raise BadSwap("a swap of the order is wanted")
    found = order_behind(load, order, swap[0], swap[1])
    if found is None:
        raise BadSwap("a swap of the order is wanted")
    return found


def next_swap(load, order, goal):
    """The first swap after which less stands the other way about than in another order, and the order behind it."""
    for word in ("groups", "kits"):
        for at, kit in enumerate(order):
            found = order_behind(load, order, word, at)
            if found is not None and goal.index(found[at]) < goal.index(kit):
                return (word, at), found
    return None


def swaps(registry, chosen, order, goal):
    """A list of as few swaps as there can be, one behind another, that leads from an order to another one."""
    load = load_of(registry, chosen)
    check_order(load, order)
    check_order(load, goal)
    found = []
    while order != goal:
        swap, order = next_swap(load, order, goal)
        found.append(swap)
    return found
