"""Projects, which hold a sound set for their roots while deeds are done, and taken back."""

from kitwright.best import best_install
from kitwright.checks import check_kit, check_ranked
from kitwright.errors import NothingDone
from kitwright.moments import (
    behind_drop, behind_publish, behind_renew, behind_step, behind_want, behind_withdraw, copied_deed, first_moment)
from kitwright.registries import Registry, check_registry, copied_ranges, kits_of
from kitwright.sets import least_chains
from kitwright.spaces import Space


class Block:
    """What a project goes back to if an exception leaves a block, and the block around it."""

    def __init__(self, moments, outer):
        self.moments = moments
        self.outer = outer


class Project:
    """A registry, roots and a held set that is sound for them, as some deeds, one behind another, have left them."""

    def __init__(self, registry, ranked):
        check_registry(registry)
        check_ranked(registry, ranked)
        self._moments = (first_moment(registry, ranked),)
        self._first = (self._moments[0].house, self._moments[0].order)
        self._block = None

    @property
    def registry(self):
        """The registry as it is now."""
        return Registry(kits_of(self._moments[-1].house))

    @property
    def roots(self):
        """The dict from the root kits to their ranges."""
        return copied_ranges(self._moments[-1].wanted)

    @property
    def ranked(self):
        """The tuple of all kits, the one ahead that is to be best first."""
        return self._moments[-1].order

    @property
    def held(self):
        """The held set."""
        taken = self._moments[-1].taken
        return {kit: taken[kit] for kit in taken}

    @property
    def log(self):
        """The list of the deeds that stand."""
        return [copied_deed(moment.deed) for moment in self._moments[1:]]

    def __len__(self):
        return len(self._moments[1:])

    def __eq__(self, other):
        return isinstance(other, Project) and self._first == other._first and self.log == other.log

    def __enter__(self):
        self._block = Block(self._moments, self._block)
        return self

    def __exit__(self, kind, value, trace):
        if kind is not None:
            self._moments = self._block.moments
        self._block = self._block.outer

    def _put(self, moment):
        """Goes on to a moment."""
        self._moments = self._moments + (moment,)

    def want(self, kit, ranged):
        """Makes a kit a root with a range; the held set becomes the best install."""
        self._put(behind_want(self._moments[-1], kit, ranged))

    def drop(self, kit):
        """Makes a root none any more; the held set becomes the best install."""
        self._put(behind_drop(self._moments[-1], kit))

    def publish(self, kit, version, manifest):
        """Publishes a version; the held set stays."""
        self._put(behind_publish(self._moments[-1], kit, version, manifest))

    def withdraw(self, kit, version):
        """Withdraws a version that is not held."""
        self._put(behind_withdraw(self._moments[-1], kit, version))

    def renew(self):
        """Makes the held set the best install."""
        self._put(behind_renew(self._moments[-1]))

    def step(self, kit, state):
        """Gives the held set another state of a kit."""
        self._put(behind_step(self._moments[-1], kit, state))

    def undo(self):
        """Takes the last deed back that stands."""
        if len(self._moments) == 1:
            raise NothingDone("no deed stands")
        self._moments = self._moments[:-1]

    def is_best(self):
        """Whether the held set is the best install now."""
        now = self._moments[-1]
        return best_install(now.house, now.wanted, now.order) == now.taken

    def stale(self):
        """The dict from the kits held in no latest version to it, and to the latest version that a sound set has."""
        now = self._moments[-1]
        space = Space(now.house)
        sound = space.sound(now.wanted)
        latest = {kit: now.house.versions(kit)[-1] for kit in now.taken}
        return {
            kit: (latest[kit], max([state for state in space.choice[kit] if sound & space.bits[kit, state]]))
            for kit in now.taken if latest[kit] != now.taken[kit]}

    def why(self, kit):
        """The least of the shortest tuples of kits that leads from a root to a kit, None if it is not reached."""
        now = self._moments[-1]
        check_kit(now.house, kit)
        chains = least_chains(now.house, now.wanted, now.taken)
        return tuple(chains[kit]) if kit in chains else None

    def without(self, kit):
        """The ascending tuple of the roots each of which alone has to go so that some sound set lacks a kit."""
        now = self._moments[-1]
        check_kit(now.house, kit)
        space = Space(now.house)
        lacking = space.bits[kit, ()]
        if lacking & space.sound(now.wanted):
            return ()
        fewer = {root: {other: now.wanted[other] for other in now.wanted if other != root} for root in now.wanted}
        return tuple([root for root in sorted(fewer) if lacking & space.sound(fewer[root])])

    def tried(self, work):
        """What a function returns for the project; if an exception leaves it, nothing is done."""
        with self:
            return work(self)

    def copy(self):
        """An independent project behind the same deeds, in no block."""
        registry, ranked = self._first
        found = Project(registry, ranked)
        found._moments = self._moments
        return found
