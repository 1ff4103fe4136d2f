"""All sets of a registry at once: a number whose bit n is 1 stands for sets with the line n, lines ascending."""


class Space:
    """The lines of a registry, and which of them have what."""

    def __init__(self, registry):
        self.order = registry.kits
        self.choice = choice_of(registry)
        self.lines = all_lines([self.choice[kit] for kit in self.order])
        self.whole = (1 << len(self.lines)) - 1
        self.bits = state_bits(self.order, self.choice, self.lines)
        self.flaws = {}
        for kit in registry.kits:
            for version in registry.versions(kit):
                self.add_flaws(kit, version, registry.manifest(kit, version))

    def add_flaws(self, kit, version, manifest):
        """Notes for each entry of a manifest at which lines it is at fault."""
        here = self.bits[kit, version]
        for other, ranged in manifest[0].items():
            self.flaws[kit, version, "want", other] = here & ~self.within(other, ranged)
        for other, ranged in manifest[1].items():
            self.flaws[kit, version, "clash", other] = here & self.within(other, ranged)

    def having(self, kit, states):
        """The lines that have one of these states of a kit that is there."""
        found = 0
        for state in states:
            found = found | self.bits[kit, state]
        return found

    def within(self, kit, ranged):
        """The lines that have a version of the range, of any kit."""
        return self.having(kit, [state for state in self.choice.get(kit, ()) if state in ranged])

    def barred(self, clause):
        """The lines that a clause bars."""
        found = self.whole
        for kit, states in clause:
            found = found & self.having(kit, states)
        return found

    def barred_by_any(self, clauses):
        """The lines that at least one of the clauses bars."""
        found = 0
        for clause in clauses:
            found = found | self.barred(clause)
        return found

    def closed(self):
        """The lines of the closed sets."""
        found = self.whole
        for flaw in self.flaws.values():
            found = found & ~flaw
        return found

    def sound(self, roots):
        """The lines of the sound sets."""
        found = self.closed()
        for kit, ranged in roots.items():
            found = found & self.within(kit, ranged)
        return found

    def indexes(self, mask):
        """The indexes of lines, ascending."""
        return [at for at in range(len(self.lines)) if (mask >> at) & 1]

    def set_of_line(self, at):
        """The set with the line of an index."""
        return {kit: state for kit, state in zip(self.order, self.lines[at]) if state != ()}

    def sets_of(self, mask):
        """The ascending list of the sets with lines."""
        return [self.set_of_line(at) for at in self.indexes(mask)]

    def first_set(self, mask):
        """The first of the sets with lines, None if there is none."""
        return self.set_of_line((mask & -mask).bit_length() - 1) if mask else None


def choice_of(registry):
    """The dict from the kits of a registry to the ascending tuples of their states."""
    return {kit: ((),) + registry.versions(kit) for kit in registry.kits}


def all_lines(choices):
    """All tuples of one state of each kit, ascending."""
    lines = [()]
    for states in choices:
        lines = [line + (state,) for line in lines for state in states]
    return lines


def state_bits(order, choice, lines):
    """The dict from the pairs (kit, state) to the lines that have the state."""
    bits = {(kit, state): 0 for kit in order for state in choice[kit]}
    for at, line in enumerate(lines):
        for kit, state in zip(order, line):
            bits[kit, state] = bits[kit, state] | (1 << at)
    return bits
