"""Moments of a project: how all stands behind a deed."""

from kitwright.best import best_install
from kitwright.checks import check_kit, is_kit_in, is_state_of
from kitwright.errors import BadKit, BadState, InUse, NoInstall, NoRoot, NotSound, TooMany
from kitwright.ranges import check_range, copied_range, is_kit
from kitwright.registries import MOST_TOLD, Registry, copied_manifest, kits_of
from kitwright.sets import is_sound


class Moment:
    """Registry, roots, ranked kits and held set behind a deed; it never changes."""

    def __init__(self, house, wanted, order, taken, deed):
        self.house = house
        self.wanted = wanted
        self.order = order
        self.taken = taken
        self.deed = deed


def first_moment(registry, ranked):
    """The moment of a project that begins, behind no deed."""
    return Moment(Registry(kits_of(registry)), {}, tuple(ranked), {}, None)


def with_roots(moment, wanted, deed):
    """The moment behind a deed that brings the best install for some roots."""
    taken = best_install(moment.house, wanted, moment.order)
    if taken is None:
        raise NoInstall("there is no install for these roots")
    return Moment(moment.house, wanted, moment.order, taken, deed)


def behind_want(moment, kit, ranged):
    """The moment behind a want."""
    if not is_kit(kit):
        raise BadKit("a kit is wanted")
    check_range(ranged)
    if kit not in moment.wanted and len(moment.wanted) == MOST_TOLD:
        raise TooMany(MOST_TOLD)
    own = copied_range(ranged)
    return with_roots(moment, {**moment.wanted, kit: own}, ("want", kit, own))


def behind_drop(moment, kit):
    """The moment behind a drop."""
    if not is_kit_in(moment.wanted, kit):
        raise NoRoot(kit)
    return with_roots(moment, {other: moment.wanted[other] for other in moment.wanted if other != kit}, ("drop", kit))


def behind_publish(moment, kit, version, manifest):
    """The moment behind a version that is published."""
    house = moment.house.published(kit, version, manifest)
    order = moment.order if kit in moment.order else moment.order + (kit,)
    deed = ("publish", kit, version, copied_manifest(manifest))
    return Moment(house, moment.wanted, order, moment.taken, deed)


def behind_withdraw(moment, kit, version):
    """The moment behind a version that is withdrawn."""
    house = moment.house.withdrawn(kit, version)
    if moment.taken.get(kit) == version:
        raise InUse(kit)
    order = tuple([other for other in moment.order if other in house.kits])
    return Moment(house, moment.wanted, order, moment.taken, ("withdraw", kit, version))


def behind_renew(moment):
    """The moment behind a renewal of the held set."""
    return with_roots(moment, moment.wanted, ("renew",))


def behind_step(moment, kit, state):
    """The moment behind a step."""
    check_kit(moment.house, kit)
    if not is_state_of(moment.house, kit, state) or state == moment.taken.get(kit, ()):
        raise BadState("another state of the kit is wanted")
    states = {**moment.taken, kit: state}
    taken = {other: states[other] for other in sorted(states) if states[other] != ()}
    if not is_sound(moment.house, moment.wanted, taken):
        raise NotSound("the held set would not be sound")
    return Moment(moment.house, moment.wanted, moment.order, taken, ("step", kit, state))


def copied_deed(deed):
    """A deed that is new at every depth."""
    if deed[0] == "want":
        return "want", deed[1], copied_range(deed[2])
    if deed[0] == "publish":
        return "publish", deed[1], deed[2], copied_manifest(deed[3])
    return deed
