"""The loading of a set: groups of kits that want one another around, and the links between kits."""

from kitwright.values import is_list


class Load:
    """The kits of a set with their wants, groups and hints, and those of the hints that are heeded."""

    def __init__(self, registry, chosen):
        told = {kit: registry.manifest(kit, chosen[kit]) for kit in sorted(chosen)}
        self.order = tuple(told)
        self.wants = pairs_of(told, 0)
        self.hints = pairs_of(told, 2)
        self.own = {kit: kit for kit in told}
        self.group = groups_by(self.own, self.wants)
        self.between = [(one, other) for one, other in self.wants if not self.are_grouped(one, other)]
        self.heeded = []
        for hint in self.hints:
            if self.leading(self.links_by(self.heeded), hint[1], hint[0]) is None:
                self.heeded.append(hint)
        self.links = self.links_by(self.heeded)

    def are_grouped(self, one, other):
        """Whether two kits are of one group."""
        return self.group[one] == self.group[other]

    def links_by(self, heeded):
        """The ascending list of the links, if these hints are heeded."""
        return sorted(set([*self.between, *heeded]))

    def grounds(self, links, one, other):
        """Those of some links that can lead from a kit to another one, and the dict from kits to where they stand."""
        if self.are_grouped(one, other):
            near = self.group[one]
            return [pair for pair in links if pair[0] in near and pair[1] in near], self.own
        return [pair for pair in links if not self.are_grouped(pair[0], pair[1])], self.group

    def leading(self, links, one, other):
        """A list of links that leads from a kit to an unlike one, None if there is none."""
        found, place = self.grounds(links, one, other)
        return lists_from(place, found, place[one]).get(place[other])

    def leads(self, links, one, other, value):
        """Whether any value is a list of one or more of some links that leads from a kit to an unlike one."""
        found, place = self.grounds(links, one, other)
        if not is_list(value) or not value or not all([pair in found for pair in value]):
            return False
        return place[value[0][0]] == place[one] and place[value[-1][1]] == place[other] and all(
            [place[ahead[1]] == place[behind[0]] for ahead, behind in zip(value, value[1:])])


def pairs_of(told, part):
    """The ascending list of the pairs (p, k) of unlike kits, p standing in a part of the manifest of k."""
    return sorted([(other, kit) for kit in told for other in told[kit][part] if other in told and other != kit])


def lists_from(place, pairs, start):
    """The dict from the places to which pairs lead from one, each from where the one ahead ends, to such lists."""
    found = {start: []}
    waiting = [start]
    at = 0
    while at < len(waiting):
        for one, other in pairs:
            if place[one] == waiting[at] and place[other] not in found:
                found[place[other]] = found[waiting[at]] + [(one, other)]
                waiting.append(place[other])
        at += 1
    return found


def groups_by(own, wants):
    """The dict from kits to their groups, ascending tuples of the kits that wants lead to and back from."""
    behind = {kit: lists_from(own, wants, kit) for kit in own}
    return {kit: tuple([other for other in own if other in behind[kit] and kit in behind[other]]) for kit in own}


def is_free(load, ahead, kit):
    """Whether all kits that have to stand ahead of one do: those of links to it, or from other groups to its group."""
    return all([
        one in ahead for one, other in load.links
        if other == kit or (load.are_grouped(other, kit) and not load.are_grouped(one, other))])


def next_kits(load, ahead):
    """The ascending list of the kits that can come next in an order, behind those that stand ahead."""
    begun = [kit for kit in load.group[ahead[-1]] if kit not in ahead] if ahead else []
    rest = begun if begun else [kit for kit in load.order if kit not in ahead]
    return [kit for kit in rest if is_free(load, ahead, kit)]


def all_orders(load):
    """The ascending list of all orders."""
    orders = [()]
    for _ in load.order:
        orders = [order + (kit,) for order in orders for kit in next_kits(load, order)]
    return orders


def stands_together(group, order):
    """Whether the kits of a group stand together in a row of kits."""
    places = [order.index(kit) for kit in group]
    return max(places) - min(places) == len(group) - 1


def is_order_of(load, value):
    """Whether any value is an order."""
    if not isinstance(value, tuple) or len(value) != len(load.order) or not all([kit in value for kit in load.order]):
        return False
    return all([stands_together(load.group[kit], value) for kit in load.order]) and all(
        [value.index(one) < value.index(other) for one, other in load.links])
