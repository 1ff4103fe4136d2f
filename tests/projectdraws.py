"""Projects led by deeds that are drawn, and a plain model of how they stand behind each of them."""

import copy
import random

from kitwright.errors import (
    BadKit, BadManifest, BadState, BadVersion, InUse, LastOne, NoInstall, NoKit, NoRoot, NoVersion, NotRange, NotSound,
    NothingDone, Taken, TooMany)
from kitwright.ranges import Range
from tests.samples import (
    ALL, EMPTY, HIGH, LOW, NONE, V1, V2, V3, plain_reached, plain_sound, plain_states, some_kits, some_manifest)

NINE = (9, 9, 9)


def plain_best(kits, roots, ranked):
    """The best sound set, None if there is none."""
    def grades(chosen):
        found = []
        for kit in ranked:
            states = [()] + sorted(kits[kit], reverse=True)
            found.append(states.index(chosen.get(kit, ())))
        return found
    return min(plain_sound(kits, roots), key=grades, default=None)


def sets_of(kits):
    """How many sets there are."""
    many = 1
    for versions in kits.values():
        many *= len(versions) + 1
    return many


class Model:
    """How a project stands: what it is made with, and a list of how all stood behind each deed."""

    def __init__(self, kits, ranked):
        self.rows = [(copy.deepcopy(kits), {}, list(ranked), {}, None)]

    @property
    def kits(self):
        return self.rows[-1][0]

    @property
    def roots(self):
        return self.rows[-1][1]

    @property
    def ranked(self):
        return self.rows[-1][2]

    @property
    def held(self):
        return self.rows[-1][3]

    @property
    def log(self):
        return [row[4] for row in self.rows[1:]]

    def refusal(self, deed):
        """The first error that a deed raises, None if it can be done."""
        return getattr(self, "refused_" + deed[0])(*deed[1:])

    def refused_want(self, kit, ranged):
        if not is_plain_kit(kit):
            return BadKit
        if not isinstance(ranged, Range):
            return NotRange
        if len({*self.roots, kit}) > 4:
            return TooMany
        return NoInstall if plain_best(self.kits, {**self.roots, kit: ranged}, self.ranked) is None else None

    def refused_drop(self, kit):
        return None if isinstance(kit, str) and kit in self.roots else NoRoot

    def refused_publish(self, kit, version, manifest):
        if not is_plain_kit(kit):
            return BadKit
        if not is_plain_version(version):
            return BadVersion
        if not isinstance(manifest, tuple):
            return BadManifest
        there = self.kits.get(kit, {})
        if version in there:
            return Taken
        later = {**self.kits, kit: {**there, version: manifest}}
        return TooMany if len(later[kit]) > 4 or len(later) > 5 or sets_of(later) > 600 else None

    def refused_withdraw(self, kit, version):
        if not is_plain_kit(kit) or kit not in self.kits:
            return NoKit
        if not is_plain_version(version) or version not in self.kits[kit]:
            return NoVersion
        if sum(map(len, self.kits.values())) == 1:
            return LastOne
        return InUse if self.held.get(kit) == version else None

    def refused_renew(self):
        return None

    def refused_step(self, kit, state):
        if not is_plain_kit(kit) or kit not in self.kits:
            return NoKit
        right = state == () or is_plain_version(state) and state in self.kits[kit]
        if not right or state == self.held.get(kit, ()):
            return BadState
        return None if self.behind_step(kit, state) in plain_sound(self.kits, self.roots) else NotSound

    def refused_undo(self):
        return None if len(self.rows) > 1 else NothingDone

    def behind_step(self, kit, state):
        """The held set with another state of a kit."""
        found = {**self.held, kit: state}
        return {name: found[name] for name in sorted(found) if found[name] != ()}

    def do(self, deed):
        """Does a deed that can be done."""
        if deed == ("undo",):
            self.rows.pop()
            return
        kits, roots, ranked, held, _ = copy.deepcopy(self.rows[-1])
        word, *told = deed
        if word == "want":
            roots[told[0]] = told[1]
        elif word == "drop":
            del roots[told[0]]
        elif word == "publish":
            kits.setdefault(told[0], {})[told[1]] = told[2]
            ranked += [] if told[0] in ranked else [told[0]]
        elif word == "withdraw":
            del kits[told[0]][told[1]]
            if not kits[told[0]]:
                del kits[told[0]]
                ranked.remove(told[0])
        elif word == "step":
            held = self.behind_step(*told)
        if word in ("want", "drop", "renew"):
            held = plain_best(kits, roots, ranked)
        self.rows.append((kits, dict(sorted(roots.items())), ranked, held, deed))

    def stale(self):
        """The kits that are held in no latest version."""
        sound = plain_sound(self.kits, self.roots)
        return {kit: (max(self.kits[kit]), max(chosen[kit] for chosen in sound if kit in chosen))
                for kit in self.held if max(self.kits[kit]) != self.held[kit]}

    def why(self, kit):
        """The least of the shortest chains in the held set."""
        rows = [(root,) for root in sorted(self.roots) if root in self.held]
        while rows and kit in plain_reached(self.kits, self.roots, self.held):
            good = [row for row in rows if row[-1] == kit]
            if good:
                return min(good)
            rows = sorted({row + (other,) for row in rows for other in self.kits[row[-1]][self.held[row[-1]]][0]
                           if other in self.held})
        return None

    def without(self, kit):
        """The roots each of which alone has to go."""
        if any(kit not in chosen for chosen in plain_sound(self.kits, self.roots)):
            return ()
        return tuple(root for root in sorted(self.roots) if any(
            kit not in chosen for chosen in plain_sound(
                self.kits, {other: self.roots[other] for other in self.roots if other != root})))


def is_plain_kit(value):
    """Whether a value is a kit."""
    return isinstance(value, str) and 1 <= len(value) <= 8 and all("a" <= letter <= "z" for letter in value)


def is_plain_version(value):
    """Whether a value is a version."""
    return isinstance(value, tuple) and len(value) == 3 and all(type(number) is int and number >= 0 for number in value)


def project_kits(rng):
    """Kits in which something is wanted, and few sets."""
    while True:
        kits = some_kits(rng, most_kits=3, most_versions=2, extra=())
        for kit in kits:
            for version in kits[kit]:
                if rng.random() < 0.6:
                    others = {other: rng.choice([ALL, ALL, LOW, HIGH]) for other in kits
                              if other > kit and rng.random() < 0.6}
                    kits[kit][version] = (others, kits[kit][version][1] if rng.random() < 0.4 else {}, ())
        if len(plain_sound(kits, {})) > 2:
            return kits


def some_deed(rng, model):
    """A deed that can be done, or cannot."""
    kits = model.kits
    kit = rng.choice([*kits, *kits, *kits, *model.roots, "new", "z"])
    versions = sorted(kits.get(kit, {})) + [rng.choice([V1, V2, V3])]
    word = rng.choice(["want"] * 4 + ["drop"] * 2 + ["publish"] * 2 + ["withdraw"] * 2 + ["renew"] * 2 + ["step"] * 5 + ["undo"] * 2)
    if word == "want":
        return word, kit, rng.choice([ALL, ALL, ALL, LOW, HIGH, NONE])
    if word == "drop":
        return word, kit
    if word == "publish":
        names = sorted(kits)
        wants = {other: rng.choice([ALL, LOW, HIGH]) for other in rng.sample(names, 1)} if rng.random() < 0.4 else {}
        return word, kit, rng.choice([V1, V2, V3]), rng.choice([EMPTY, (wants, {}, ()), some_manifest(rng, names, 1)])
    if word == "withdraw":
        return word, kit, rng.choice(versions)
    if word == "step":
        return word, kit, rng.choice(plain_states(kits, kit) if kit in kits else [(), V1])
    return (word,)


def runs(seed, many, deeds):
    """Quadruples of a generator, kits, ranked kits and a model that began so, with many deeds to come."""
    rng = random.Random(seed)
    for _ in range(many):
        kits = project_kits(rng)
        ranked = sorted(kits)
        rng.shuffle(ranked)
        yield rng, kits, ranked, Model(kits, ranked)
