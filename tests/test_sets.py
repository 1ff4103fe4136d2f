"""Promises [8] and [21] to [25]: sets, chains, all sound sets, what holds for all roots, what comes and goes."""

import itertools
import random
import unittest

from kitwright.errors import (
    BadKit, BadLine, BadManifest, BadNumber, BadRoots, BadVersion, LastOne, NoEntry, NoKit, NotSound, NoVersion,
    OtherKits, Taken, TooMany)
from kitwright.ranges import Range
from kitwright.registries import Registry, renamed, together
from kitwright.sets import (
    beside, chain_to, closed_sets, dead_paper, dead_versions, faults, gained, how_many, installs, is_chain,
    is_dead_paper, is_set, is_sound, line_of, lost, needless_entries, number_of, parting_set, reached, same_sets,
    set_at, set_of, sound_sets, spare_lots, states_of, tally, trimmed, without_entry)
from tests.samples import (
    ALL, APP, EMPTY, HIGH, LOW, NONE, V1, V2, V3, Case, any_values, has, kits_dict, plain_faults, plain_installs,
    plain_line, plain_lines, plain_reached, plain_set, plain_sets, plain_sound, plain_states, some_kits, some_manifest,
    some_roots, some_version)


def cases(seed, many, **told):
    """Triples of a generator, kits and roots."""
    rng = random.Random(seed)
    for at in range(many):
        kits = some_kits(rng, **(told if at % 10 else {"most_kits": 5, "most_versions": 2}))
        yield rng, kits, some_roots(rng, kits)


def entries_of(kits):
    """All entries, ascending, by the test's own look."""
    return sorted((kit, version, word, other) for kit in kits for version in kits[kit]
                  for word, part in (("want", 0), ("clash", 1)) for other in kits[kit][version][part])


def without(kits, entries):
    """The kits whose manifests do not say these entries."""
    found = {kit: {version: (dict(told[0]), dict(told[1]), told[2]) for version, told in kits[kit].items()}
             for kit in kits}
    for kit, version, word, other in entries:
        del found[kit][version][0 if word == "want" else 1][other]
    return found


class Promise21(Case):
    def test_states(self):
        for _, kits, _ in cases(41, 60):
            registry = Registry(kits)
            for kit in kits:
                self.same(self.answers_anew(states_of, registry, kit), tuple(plain_states(kits, kit)))
        self.same(states_of(registry=Registry(APP), kit="lib"), ((), V1, V2))

    def test_sets_and_lines(self):
        for _, kits, _ in cases(42, 60):
            registry = Registry(kits)
            for line in plain_lines(kits):
                chosen = plain_set(kits, line)
                self.assertIs(is_set(registry, chosen), True)
                self.same(line_of(registry, dict(reversed(chosen.items()))), line)
                self.same(self.answers_anew(set_of, registry, line), chosen)

    def test_no_sets(self):
        registry = Registry(APP)
        for value in any_values():
            self.assertIs(is_set(registry, value), isinstance(value, dict) and not value, repr(value))
            self.assertIs(is_set(registry, {"app": value}), repr(value) == "(1, 0, 0)")
            self.assertIs(is_set(registry, {"lib": V2, "app": value}), repr(value) == "(1, 0, 0)")
        for value in [{"app": V3}, {"zz": V1}, {"app": ()}, {"app": (True, 0, 0)}, {"app": [1, 0, 0]}, {"APP": V1},
                      [("app", V1)], {"app": V1, 1: V1}, {"app": V1, "lib": (2, False, 0)}, {("app",): V1}]:
            self.assertIs(is_set(registry=registry, value=value), False)

    def test_no_lines(self):
        registry = Registry(APP)
        for value in any_values():
            if repr(value) not in ("((), ())", "((1, 0, 0), (2, 0, 0))"):
                self.refuses(BadLine, set_of, registry, value)
            if repr(value) not in ("()", "(1, 0, 0)"):
                self.refuses(BadLine, set_of, registry, (V2, value))
        for value in [[V1, V2], (V1,), (V1, V2, ()), (V1, V3), (V1, None), ((True, 0, 0), ()), (V1, []), ((), (1, 0))]:
            self.refuses(BadLine, set_of, registry, value)
        self.same(set_of(registry=registry, line=((), V2)), {"lib": V2})

    def test_faults(self):
        for _, kits, roots in cases(43, 120):
            registry = Registry(kits)
            for chosen in plain_sets(kits):
                found = plain_faults(kits, roots, chosen)
                self.same(faults(registry, roots, chosen), found)
                self.assertIs(is_sound(registry, roots, chosen), not found)

    def test_faults_by_hand(self):
        registry = Registry(APP)
        self.same(self.answers_anew(faults, registry, {}, {"app": V1, "lib": V2}),
                  [("clash", "lib", "app"), ("want", "app", "lib")])
        self.same(faults(registry, {"app": LOW, "lib": NONE, "zz": ALL}, {"app": V2}),
                  [("root", "app"), ("root", "lib"), ("root", "zz"), ("want", "app", "lib")])
        own = Registry({"a": {V1: ({"a": HIGH}, {}, ()), V2: ({"a": HIGH}, {"a": HIGH}, ()), V3: ({"z": ALL}, {}, ())}})
        self.same(faults(own, {}, {"a": V1}), [("want", "a", "a")])
        self.same(faults(own, {}, {"a": V2}), [("clash", "a", "a")])
        self.same(faults(registry=own, roots={}, chosen={"a": V3}), [("want", "a", "z")])


class Promise22(Case):
    def ring(self):
        """A ring of wants, a kit with a want that is out of the range, and one that nobody wants."""
        return {"a": {V1: ({"b": ALL, "c": ALL}, {}, ())}, "b": {V1: ({"d": NONE}, {}, ())},
                "c": {V1: ({"d": ALL, "a": ALL}, {}, ())}, "d": {V1: ({"d": ALL}, {}, ())}, "e": {V1: ({"a": ALL}, {}, ())}}

    def plain_chains(self, kits, roots, chosen):
        """All chains without a kit twice."""
        rows = [[kit] for kit in roots if kit in chosen]
        for row in rows:
            for other in kits[row[-1]][chosen[row[-1]]][0]:
                if other in chosen and other not in row:
                    rows.append(row + [other])
        return rows

    def test_reached_and_chains(self):
        for _, kits, roots in cases(44, 120):
            registry = Registry(kits)
            for chosen in plain_sets(kits):
                self.same(reached(registry, roots, chosen), plain_reached(kits, roots, chosen))
                rows = self.plain_chains(kits, roots, chosen)
                for kit in chosen:
                    wanted = min([(len(row), row) for row in rows if row[-1] == kit], default=(0, None))[1]
                    self.same(chain_to(registry, roots, chosen, kit), wanted)
                for row in rows[:20]:
                    self.assertIs(is_chain(registry, roots, chosen, row), True)

    def test_by_hand(self):
        kits = self.ring()
        registry, chosen = Registry(kits), {kit: V1 for kit in kits}
        roots = {"a": NONE, "zz": ALL}
        self.same(self.answers_anew(reached, registry, roots, chosen), ("a", "b", "c", "d"))
        self.same(self.answers_anew(chain_to, registry, roots, chosen, "d"), ["a", "b", "d"])
        self.same(chain_to(registry, roots, chosen, "e"), None)
        self.same(chain_to(registry, {"e": ALL, "c": ALL}, chosen, "a"), ["c", "a"])
        self.same(chain_to(registry=registry, roots={"d": ALL, "c": ALL}, chosen=chosen, kit="d"), ["d"])
        self.same(reached(registry, {"a": ALL}, {"b": V1, "c": V1}), ())
        for value in [["a"], ["a", "c", "a"], ("a", "c", "d", "d"), ["a", "c", "a", "b", "d"]]:
            self.assertIs(is_chain(registry, roots, chosen, value), True, value)
        for value in [[], (), ["b"], ["a", "d"], ["a", "e"], ["a", 1], [["a"]], "a", None, {"a": 1}, ["a", "c", "b"],
                      ["zz"], ["a", "zz"], [("a",)], ["a", ALL], ["a", ["c"]]]:
            self.assertIs(is_chain(registry, roots, chosen, value), False, repr(value))
        self.assertIs(is_chain(registry, roots, {"b": V1}, ["a", "b"]), False)
        for value in any_values():
            self.assertIs(is_chain(registry, roots, chosen, value), value in (["a"], ["a", "b"]), repr(value))

    def test_no_kit_of_the_set(self):
        registry = Registry(APP)
        for value in any_values() + ["lib"]:
            self.refuses(NoKit, chain_to, registry, {}, {"app": V1}, value, kit=value)

    def test_trimmed(self):
        for _, kits, roots in cases(45, 120):
            registry = Registry(kits)
            sound = plain_sound(kits, roots)
            for chosen in plain_sets(kits):
                if chosen not in sound:
                    self.refuses(NotSound, trimmed, registry, roots, chosen)
                    continue
                least = self.answers_anew(trimmed, registry, roots, chosen)
                self.same(least, {kit: chosen[kit] for kit in plain_reached(kits, roots, chosen)})
                self.assertIn(least, plain_installs(kits, roots))
                within = [other for other in sound if other.items() <= chosen.items()]
                self.assertTrue(all(least.items() <= other.items() for other in within))
                self.assertEqual(chosen in plain_installs(kits, roots), within == [chosen])

    def test_sets_that_agree(self):
        for _, kits, roots in cases(46, 60):
            for one, other in itertools.combinations(sound_sets(Registry(kits), roots), 2):
                if all(one[kit] == other[kit] for kit in one if kit in other):
                    shared = {kit: one[kit] for kit in one if kit in other}
                    self.assertTrue(is_sound(Registry(kits), roots, shared))
                    if all(not told[1] for versions in kits.values() for told in versions.values()):
                        self.assertTrue(is_sound(Registry(kits), roots, {**one, **other}))


class Promise23(Case):
    def test_all(self):
        for _, kits, roots in cases(47, 200):
            registry, sound = Registry(kits), plain_sound(kits, roots)
            self.same(sound_sets(registry, roots), sound)
            self.same(installs(registry, roots), plain_installs(kits, roots))
            self.same(how_many(registry, roots), len(sound))
            self.same(tally(registry, roots), {
                kit: {state: sum(chosen.get(kit, ()) == state for chosen in sound) for state in plain_states(kits, kit)}
                for kit in sorted(kits)})
            for number, chosen in enumerate(sound):
                self.same(set_at(registry, roots, number), chosen)
                self.same(number_of(registry, roots, dict(reversed(chosen.items()))), number)
            for number in (-1, len(sound), len(sound) + 1, 10 ** 99):
                self.refuses(BadNumber, set_at, registry, roots, number)
            for chosen in plain_sets(kits):
                if chosen not in sound:
                    self.refuses(NotSound, number_of, registry, roots, chosen)

    def test_new_values(self):
        for _, kits, roots in cases(48, 20):
            registry = Registry(kits)
            for call in (sound_sets, installs, how_many, tally):
                self.answers_anew(call, registry, roots)

    def test_numbers(self):
        registry = Registry(APP)
        self.same(how_many(registry, {}), 5)
        self.same(self.answers_anew(set_at, registry, {}, 0), {})
        self.same(self.answers_anew(set_at, registry, {}, 3), {"app": V1, "lib": V1})
        self.same(how_many(registry=registry, roots={"zz": ALL}), 0)
        self.same(sound_sets(registry, {"app": NONE}), [])
        for value in any_values():
            if repr(value) not in ("0", "1", "3"):
                self.refuses(BadNumber, set_at, registry, {}, value)
        self.refuses(BadNumber, set_at, registry, {}, 5)
        self.refuses(BadNumber, set_at, registry, {"zz": ALL}, 0)

    def test_great_registry(self):
        kits = {kit: {(at, 0, 0): EMPTY for at in range(many)} for kit, many in zip("abcde", (4, 4, 3, 2, 1))}
        self.same(how_many(Registry(kits), {}), 600)
        self.same(set_at(Registry(kits), {}, 599), {"a": V3, "b": V3, "c": V2, "d": V1, "e": (0, 0, 0)})
        self.same(number_of(Registry(kits), {}, {"e": (0, 0, 0)}), 1)


class Promise24(Case):
    def test_closed(self):
        for _, kits, _ in cases(49, 80):
            self.same(self.answers_anew(closed_sets, Registry(kits)), plain_sound(kits, {}))

    def test_roots_take_from_the_closed(self):
        for _, kits, roots in cases(50, 60):
            registry = Registry(kits)
            closed = [chosen for chosen in closed_sets(registry)
                      if all(kit in chosen and has(roots[kit], chosen[kit]) for kit in roots)]
            self.assertEqual(sound_sets(registry, roots), closed)
            self.assertEqual(installs(registry, roots), [
                chosen for chosen in closed
                if not any(other != chosen and other.items() <= chosen.items() for other in closed)])

    def test_two_registries(self):
        rng = random.Random(51)
        for _ in range(150):
            kits = some_kits(rng)
            changed = without(kits, rng.sample(entries_of(kits), min(len(entries_of(kits)), rng.randint(0, 2))))
            one, other = Registry(kits), Registry(changed)
            unlike = [chosen for chosen in plain_sets(kits)
                      if (not plain_faults(kits, {}, chosen)) != (not plain_faults(changed, {}, chosen))]
            self.assertIs(same_sets(one, other), not unlike)
            self.same(self.answers_anew(parting_set, one, other), unlike[0] if unlike else None)
            self.same(parting_set(other, one), parting_set(one=one, other=other))

    def test_other_kits(self):
        one = Registry(APP)
        for kits in [{"app": APP["app"]}, {**APP, "new": {V1: EMPTY}}, {"app": APP["app"], "lib": {V1: EMPTY}},
                     {"app": APP["app"], "lib": {V1: EMPTY, V3: EMPTY}}, {"ap": APP["app"], "lib": APP["lib"]}]:
            self.refuses(OtherKits, same_sets, one, Registry(kits))
            self.refuses(OtherKits, parting_set, Registry(kits), one)

    def test_dead_and_beside(self):
        dead = 0
        for _, kits, _ in cases(52, 150):
            registry, closed = Registry(kits), plain_sound(kits, {})
            found = []
            for kit in sorted(kits):
                for version in sorted(kits[kit]):
                    those = [chosen for chosen in closed if chosen.get(kit) == version]
                    told = {other: tuple(sorted({chosen.get(other, ()) for chosen in those})) for other in sorted(kits)}
                    self.same(self.answers_anew(beside, registry, kit, version), told if those else {})
                    if not those:
                        found.append((kit, version))
                        dead += 1
                    self.look_at_papers(kits, registry, kit, version, bool(those))
            self.same(self.answers_anew(dead_versions, registry), found)
        self.assertGreater(dead, 20)

    def look_at_papers(self, kits, registry, kit, version, alive):
        """Judges the dead paper of a version."""
        paper = self.answers_anew(dead_paper, registry, kit, version)
        self.assertEqual(paper is None, alive)
        if alive:
            lines = [line for line in plain_lines(kits) if plain_set(kits, line).get(kit) == version]
            self.assertIs(is_dead_paper(registry, kit, version, {line: ("want", kit, kit) for line in lines}), False)
            return
        self.same(list(paper), [line for line in plain_lines(kits) if plain_set(kits, line).get(kit) == version])
        for line, fault in paper.items():
            self.assertIn(fault, plain_faults(kits, {}, plain_set(kits, line)))
        self.assertIs(is_dead_paper(registry, kit, version, paper), True)
        others = {line: plain_faults(kits, {}, plain_set(kits, line))[-1] for line in reversed(list(paper))}
        self.assertIs(is_dead_paper(registry, kit, version, others), True)
        line = ([one for one in paper if any(state[:1] == (1,) for state in one)] or list(paper))[0]
        less = {key: paper[key] for key in paper if key != line}
        self.assertIs(is_dead_paper(registry, kit, version, less), False)
        for fault in [("root", kit), ("want", kit), None, list(paper[line]), ("want", "zz", "zz"), paper[line] + ("a",)]:
            self.assertIs(is_dead_paper(registry, kit, version, {**paper, line: fault}), False)
        self.assertIs(is_dead_paper(registry, kit, version, {**paper, (): paper[line]}), False)
        loose = tuple((True,) + state[1:] if state and state[0] == 1 else state for state in line)
        if any(state[:1] == (1,) for state in line):
            self.assertIs(is_dead_paper(registry, kit, version, {**less, loose: paper[line]}), False)
        other = [row for row in plain_lines(kits) if row not in paper][0]
        self.assertIs(is_dead_paper(registry, kit, version, {**less, other: paper[line]}), False)
        self.assertIs(is_dead_paper(registry, kit, version, {**paper, other: paper[line]}), False)

    def test_no_dead_papers(self):
        registry = Registry({"a": {V1: ({"z": ALL}, {}, ())}})
        self.same(dead_paper(registry, "a", V1), {(V1,): ("want", "a", "z")})
        self.assertIs(is_dead_paper(registry=registry, kit="a", version=V1, value={(V1,): ("want", "a", "z")}), True)
        for value in any_values():
            self.assertIs(is_dead_paper(registry, "a", V1, value), False)
            self.assertIs(is_dead_paper(registry, "a", V1, {(V1,): value}), False)

    def test_entries(self):
        for _, kits, _ in cases(53, 100):
            registry, closed = Registry(kits), plain_sound(kits, {})
            needless = []
            for entry in entries_of(kits):
                less = without(kits, [entry])
                self.same(kits_dict(without_entry(registry, entry)), {
                    kit: {version: tuple(
                        {name: part[name] for name in sorted(part)} if isinstance(part, dict) else part
                        for part in less[kit][version]) for version in sorted(less[kit])} for kit in sorted(less)})
                if plain_sound(less, {}) == closed:
                    needless.append(entry)
            self.same(self.answers_anew(needless_entries, registry), needless)
            self.same(kits_dict(registry), kits_dict(Registry(kits)))

    def test_no_entries(self):
        registry = Registry(APP)
        for value in any_values():
            self.refuses(NoEntry, without_entry, registry, value)
            for at in range(4):
                entry = ["app", V1, "want", "lib"]
                entry[at] = value
                if tuple(entry) != ("app", V1, "want", "lib") or repr(entry[1]) != repr(V1):
                    self.refuses(NoEntry, without_entry, registry, tuple(entry))
        for entry in [("app", V1, "clash", "lib"), ("app", V1, "want", "app"), ("app", V3, "want", "lib"),
                      ("lib", V1, "clash", "app"), ["app", V1, "want", "lib"], ("app", V1, "want"),
                      ("app", (True, 0, 0), "want", "lib"), ("app", V1, "want", "lib", 1), ("app", V2, "after", "lib")]:
            self.refuses(NoEntry, without_entry, registry, entry)
        found = without_entry(registry=registry, entry=("lib", V2, "clash", "app"))
        self.same(found.manifest("lib", V2), EMPTY)
        own = Registry({"a": {V1: ({"a": HIGH}, {}, ())}})
        self.same(without_entry(own, ("a", V1, "want", "a")).manifest("a", V1), EMPTY)

    def test_spare_lots(self):
        longer = 0
        for _, kits, _ in cases(54, 150, most_versions=2):
            registry, closed, entries = Registry(kits), plain_sound(kits, {}), entries_of(kits)
            if len(entries) > 10:
                self.refuses(TooMany, spare_lots, registry, most=10)
                continue
            if len(entries) > 8:
                continue
            lots = [lot for size in range(len(entries) + 1) for lot in itertools.combinations(entries, size)
                    if plain_sound(without(kits, lot), {}) == closed]
            greatest = [lot for lot in lots if not any(set(lot) < set(other) for other in lots)]
            self.same(self.answers_anew(spare_lots, registry), sorted(greatest, key=lambda lot: (-len(lot), lot)))
            longer += len(greatest) > 1
        self.assertGreater(longer, 5)

    def test_ten_and_eleven_entries(self):
        four = {kit: ALL for kit in "wxyz"}
        kits = {"a": {V1: (four, four, ()), V2: (dict(list(four.items())[:2]), {}, ())}}
        self.assertEqual(len(entries_of(kits)), 10)
        self.same(len(spare_lots(Registry(kits))), 8)
        kits["a"][V2][1]["a"] = ALL
        self.refuses(TooMany, spare_lots, Registry(kits), most=10)
        self.same(spare_lots(Registry({"a": {V1: EMPTY}})), [()])
        self.same(spare_lots(registry=Registry({"a": {V1: ({"a": ALL}, {"z": ALL}, ())}})),
                  [(("a", V1, "clash", "z"), ("a", V1, "want", "a"))])

    def test_example(self):
        registry = Registry({
            "app": {V1: ({"lib": Range([(V1, V2)])}, {}, ())},
            "lib": {V1: EMPTY, V2: ({}, {"app": ALL}, ())}})
        self.same(closed_sets(registry), [{}, {"lib": V1}, {"lib": V2}, {"app": V1, "lib": V1}])
        self.same(faults(registry, {}, {"app": V1, "lib": V2}), [("clash", "lib", "app"), ("want", "app", "lib")])
        self.same(needless_entries(registry), [("lib", V2, "clash", "app")])
        roots = {"app": Range([(V1, V2)])}
        self.same(installs(registry, roots), [{"app": V1, "lib": V1}])
        self.same(sound_sets(registry, roots), [{"app": V1, "lib": V1}])
        self.same(chain_to(registry, roots, {"app": V1, "lib": V1}, "lib"), ["app", "lib"])
        self.same(beside(registry, "app", V1), {"app": (V1,), "lib": (V1,)})


class Promise25(Case):
    def test_gained_and_lost(self):
        for rng, kits, roots in cases(55, 120):
            registry = Registry(kits)
            kit, version = rng.choice(sorted(kits) + ["n"]), some_version(rng)
            manifest = some_manifest(rng, sorted(kits) + ["n", "z"])
            if kit in kits and version not in kits[kit] and len(kits[kit]) < 4 or kit == "n" and len(kits) < 5:
                later = {**kits, kit: {**kits.get(kit, {}), version: manifest}}
                before, behind = plain_sound(kits, roots), plain_sound(later, roots)
                found = self.answers_anew(gained, registry, roots, kit, version, manifest)
                self.same(found, [chosen for chosen in behind if chosen not in before])
                self.assertEqual([chosen for chosen in behind if chosen.get(kit) != version], before)
                grown = registry.published(kit, version, manifest)
                self.same(lost(grown, roots, kit, version), found)
                self.assertEqual(grown.withdrawn(kit, version), registry)
                self.assertTrue(all(one in plain_installs(later, roots) for one in plain_installs(kits, roots)))

    def test_lost(self):
        for _, kits, roots in cases(56, 100):
            registry, before = Registry(kits), plain_sound(kits, roots)
            for kit in kits:
                for version in kits[kit]:
                    less = {name: {one: told for one, told in kits[name].items() if (name, one) != (kit, version)}
                            for name in kits}
                    less = {name: versions for name, versions in less.items() if versions}
                    if not less:
                        self.refuses(LastOne, lost, registry, roots, kit, version)
                        continue
                    behind = plain_sound(less, roots)
                    self.same(self.answers_anew(lost, registry, roots, kit, version),
                              [chosen for chosen in before if chosen not in behind])
                    self.assertTrue(all(chosen in before for chosen in behind))
                    stay = [chosen for chosen in plain_installs(kits, roots) if chosen.get(kit) != version]
                    self.assertTrue(all(chosen in plain_installs(less, roots) for chosen in stay))

    def test_errors(self):
        registry = Registry(APP)
        for value in any_values():
            if not (isinstance(value, str) and value in ("a", "kit", "none")):
                self.refuses(BadKit, gained, registry, {}, value, None, None)
            if repr(value) != "(1, 0, 0)":
                self.refuses(BadVersion, gained, registry, {}, "lib", value, None)
                self.refuses(NoVersion, lost, registry, {}, "lib", value, version=value)
            self.refuses(BadManifest, gained, registry, {}, "lib", V1, value)
            self.refuses(NoKit, lost, registry, {}, value, None, kit=value)
        self.refuses(BadRoots, gained, registry, None, None, None, None)
        self.refuses(BadRoots, lost, registry, None, None, None)
        self.refuses(Taken, gained, registry, {}, "lib", V1, EMPTY)
        full = Registry({"a": {(at, 0, 0): EMPTY for at in range(4)}})
        self.refuses(TooMany, gained, full, {}, "a", (9, 0, 0), EMPTY, most=4)
        self.refuses(LastOne, lost, Registry({"a": {V1: EMPTY}}), {}, "a", V1)
        self.same(gained(registry=registry, roots={}, kit="n", version=V1, manifest=({"lib": NONE}, {}, ())), [])
        self.same(lost(registry=registry, roots={}, kit="lib", version=V2),
                  [chosen for chosen in plain_sound(APP, {}) if chosen.get("lib") == V2])

    def test_together(self):
        rng = random.Random(57)
        for _ in range(60):
            first = some_kits(rng, most_kits=2, extra=("y",))
            kits = some_kits(rng, most_kits=2)
            names = {"a": "m", "b": "n", "z": "z"}
            registry = Registry(kits)
            second = renamed(registry, {kit: names[kit] for kit in registry.named})
            one, other = Registry(first), second
            both = together(one, other)
            roots, more = some_roots(rng, first, extra=()), some_roots(rng, kits_dict(second), extra=())
            found = sound_sets(both, {**roots, **more})
            self.same(found, sorted([{**left, **right} for left in sound_sets(one, roots)
                                     for right in sound_sets(other, more)],
                                    key=lambda chosen: plain_line(kits_dict(both), chosen)))
            self.same(how_many(both, {**roots, **more}), how_many(one, roots) * how_many(other, more))

    def test_renamed(self):
        for rng, kits, roots in cases(58, 60):
            registry = Registry(kits)
            told = sorted(set(registry.named) | set(roots))
            names = dict(zip(told, rng.sample(["a", "b", "c", "d", "e", "z", "q", "qq"], len(told))))
            other = renamed(registry, {kit: names[kit] for kit in registry.named})
            called = {names[kit]: roots[kit] for kit in roots}
            for chosen in plain_sets(kits)[:30]:
                self.assertEqual(
                    sorted(tuple([fault[0]] + [names[kit] for kit in fault[1:]])
                           for fault in faults(registry, roots, chosen)),
                    faults(other, called, {names[kit]: chosen[kit] for kit in chosen}))
            for call in (sound_sets, installs):
                found = [{names[kit]: chosen[kit] for kit in chosen} for chosen in call(registry, roots)]
                self.assertTrue(all(chosen in call(other, called) for chosen in found))
                self.assertEqual(len(found), len(call(other, called)))


if __name__ == "__main__":
    unittest.main()
