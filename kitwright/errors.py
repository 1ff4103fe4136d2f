"""All errors of Kitwright, each directly below KitError."""


class KitError(ValueError):
    """What all errors of the package have in common."""


class BadVersion(KitError):
    """A value that is no version."""


class NotRange(KitError):
    """A value that is no Range."""


class NotRegistry(KitError):
    """A value that is no Registry."""


class BadRoots(KitError):
    """A value that is no dict from 0 to 4 kits to Ranges."""


class BadSet(KitError):
    """A value that is no set of the registry."""


class NotSound(KitError):
    """A set that is not sound where a sound one is wanted."""


class BadNumber(KitError):
    """A value that is none of the numbers that are wanted."""


class BadRanked(KitError):
    """A value that is no list of all kits of the registry, each once."""


class BadKit(KitError):
    """A value that is no kit."""


class BadManifest(KitError):
    """A value that is no manifest."""


class Taken(KitError):
    """A version that is there already."""


class LastOne(KitError):
    """The last version of a registry, which has to stay."""


class BadNames(KitError):
    """A value that is no dict from just the named kits to different kits."""


class BadLine(KitError):
    """A value that is no line of the registry."""


class OtherKits(KitError):
    """Two registries that have not the same kits and versions."""


class NoEntry(KitError):
    """A value that is no entry of the registry."""


class BadClause(KitError):
    """A value that is no clause of the registry."""


class NotShared(KitError):
    """A kit of which not both clauses tell states."""


class NoneSound(KitError):
    """There is no sound set."""


class BadPrices(KitError):
    """A value that is no prices."""


class NotFloors(KitError):
    """A registry or roots that are not made of floors."""


class BadBounds(KitError):
    """A value that is no dict of bounds."""


class BadStep(KitError):
    """A value that is no step that can be made."""


class BadLot(KitError):
    """A value that is no lot."""


class BadSizes(KitError):
    """A value that is no sizes."""


class BadHint(KitError):
    """A value that is no hint of the set."""


class BadOrder(KitError):
    """A value that is no order of the set."""


class BadSwap(KitError):
    """A value that is no swap of the order."""


class BadWeb(KitError):
    """A value that has not the form of a web."""


class BadLayout(KitError):
    """A value that is no layout."""


class BadPath(KitError):
    """A value that is no path of a copy."""


class BadFit(KitError):
    """A layout that does not fit the web."""


class BadTop(KitError):
    """A value that is no top of the web."""


class BadPins(KitError):
    """A value that is no pins."""


class BadWeights(KitError):
    """A value that is no weights of just the pinned kits."""


class NotLock(KitError):
    """A value that is no Lock."""


class NoSet(KitError):
    """There is no sound set to take."""


class BadTheory(KitError):
    """A value that is no theory."""


class BadWorked(KitError):
    """A value that is no bool."""


class NoInstall(KitError):
    """There is no install for the roots."""


class BadState(KitError):
    """A value that is no state to which the kit can go."""


class NothingDone(KitError):
    """There is no deed to take back."""


class NotProject(KitError):
    """A value that is no Project."""


class BadRange(KitError):
    """No list of at most 40 stretches: at is None, or the index of what is no stretch."""

    def __init__(self, at):
        super().__init__(f"no stretches: {at!r}")
        self.at = at


class BadVersions(KitError):
    """No list of at most 40 versions: part is "inside" or "outside"."""

    def __init__(self, part):
        super().__init__(f"no versions: {part!r}")
        self.part = part


class BadText(KitError):
    """No text: at is the number of the first word that can not stand there."""

    def __init__(self, at):
        super().__init__(f"no text: {at!r}")
        self.at = at


class BadRegistry(KitError):
    """No kits of a registry: spot is None, (kit,) or (kit, version)."""

    def __init__(self, spot):
        super().__init__(f"no registry: {spot!r}")
        self.spot = spot


class CommonKit(KitError):
    """A kit that is named in both registries."""

    def __init__(self, kit):
        super().__init__(f"a common kit: {kit!r}")
        self.kit = kit


class NoKit(KitError):
    """A value that is none of the kits."""

    def __init__(self, kit):
        super().__init__(f"no such kit: {kit!r}")
        self.kit = kit


class NoVersion(KitError):
    """A value that is none of the kit's versions."""

    def __init__(self, version):
        super().__init__(f"no such version: {version!r}")
        self.version = version


class TooMany(KitError):
    """More than the most that there may be."""

    def __init__(self, most):
        super().__init__(f"more than: {most!r}")
        self.most = most


class BadClauses(KitError):
    """No list of at most 200 clauses: at is None, or the index of what is no clause."""

    def __init__(self, at):
        super().__init__(f"no clauses: {at!r}")
        self.at = at


class BadRows(KitError):
    """No rows of a derivation: at is None, or the index of what is no row."""

    def __init__(self, at):
        super().__init__(f"no rows: {at!r}")
        self.at = at


class BadDemands(KitError):
    """No list of at most 7 demands: at is None, or the index of what is no demand."""

    def __init__(self, at):
        super().__init__(f"no demands: {at!r}")
        self.at = at


class BadLots(KitError):
    """No list of at most 40 lots: at is None, or the index of what is no lot."""

    def __init__(self, at):
        super().__init__(f"no lots: {at!r}")
        self.at = at


class BadWay(KitError):
    """No way: at is None, or the index of the first step that can not be made."""

    def __init__(self, at):
        super().__init__(f"no way: {at!r}")
        self.at = at


class BadTrials(KitError):
    """No list of at most 12 trials: at is None, or the index of what is no trial."""

    def __init__(self, at):
        super().__init__(f"no trials: {at!r}")
        self.at = at


class NoTheory(KitError):
    """No theory fits: at is the index of a failed trial that shows it."""

    def __init__(self, at):
        super().__init__(f"no theory: {at!r}")
        self.at = at


class BadCulprits(KitError):
    """No such culprits: part is "taken" or "barred"."""

    def __init__(self, part):
        super().__init__(f"no culprits: {part!r}")
        self.part = part


class BadIndex(KitError):
    """A value that is no index."""

    def __init__(self, at):
        super().__init__(f"no index: {at!r}")
        self.at = at


class NoRoot(KitError):
    """A kit that is no root."""

    def __init__(self, kit):
        super().__init__(f"no such root: {kit!r}")
        self.kit = kit


class InUse(KitError):
    """A kit that is held in this version."""

    def __init__(self, kit):
        super().__init__(f"in use: {kit!r}")
        self.kit = kit


class BadLog(KitError):
    """No right log: at is the index of the first item that is wrong."""

    def __init__(self, at):
        super().__init__(f"no right log: {at!r}")
        self.at = at
