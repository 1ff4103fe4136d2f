"""Drafts of registries, told bit by bit; what no registry can be is found when one is made of them."""

from kitwright.errors import NoKit, NoVersion
from kitwright.registries import Registry


class Draft:
    """Kits in versions with what their manifests say, however many."""

    def __init__(self):
        self.told = {}

    def put(self, kit, version):
        """Puts a version with an empty manifest there."""
        if kit not in self.told:
            self.told[kit] = {}
        self.told[kit][version] = ({}, {}, {})

    def entries(self, kit, version, part):
        """The dict from kits of a part of the manifest of a version that is there."""
        if kit not in self.told:
            raise NoKit(kit)
        if version not in self.told[kit]:
            raise NoVersion(version)
        return self.told[kit][version][part]

    def put_want(self, kit, version, other, ranged):
        """Puts a want into a manifest."""
        wants = self.entries(kit, version, 0)
        wants[other] = ranged

    def put_bar(self, kit, version, other, ranged):
        """Puts a bar into a manifest."""
        clashes = self.entries(kit, version, 1)
        clashes[other] = ranged

    def put_hint(self, kit, version, other):
        """Puts a hint into a manifest."""
        after = self.entries(kit, version, 2)
        after[other] = True

    def made(self):
        """The registry of all that is told."""
        return Registry({
            kit: {
                version: (wants, clashes, tuple(sorted(after)))
                for version, (wants, clashes, after) in versions.items()}
            for kit, versions in self.told.items()})
