"""The search for derivations: rows that join clauses until one bars all that a wanted clause bars."""

from kitwright.clauses import joined_clause, tells


class Deriver:
    """Makes rows, kit by kit, for a wanted clause that follows."""

    def __init__(self, space, clauses, wanted):
        self.space = space
        self.given = clauses
        self.bars = [space.barred(clause) for clause in clauses]
        self.told = dict(wanted)
        self.rows = []
        self.shown = []

    def row_barring(self, box, depth):
        """The index of a row that bars a box: one state for each kit ahead of depth, those wanted for the others."""
        for index, bars in enumerate(self.bars):
            if box & ~bars == 0:
                return self.added(("given", index), self.given[index])
        return self.joined_row(box, depth)

    def joined_row(self, box, depth):
        """The row for a box of which no given clause bars all: joined from rows for its parts by one kit."""
        kit = self.space.order[depth]
        last = None
        for state in self.told.get(kit, self.space.choice[kit]):
            if last is not None and state in dict(self.shown[last])[kit]:
                continue
            row = self.row_barring(box & self.space.bits[kit, state], depth + 1)
            if not tells(self.shown[row], kit):
                return row
            last = row if last is None else self.both(last, row, kit)
            if not tells(self.shown[last], kit):
                return last
        return last

    def both(self, one, other, kit):
        """The index of a new row that joins two."""
        clause = joined_clause(self.space.choice, self.shown[one], self.shown[other], kit)
        return self.added(("joined", one, other, kit), clause)

    def added(self, row, clause):
        """The index of a new row."""
        self.rows.append(row)
        self.shown.append(clause)
        return len(self.rows) - 1


def needed_rows(rows, last):
    """The rows that the one with an index needs, this one last, with their indexes told anew."""
    needed = {last: True}
    for at in range(last, -1, -1):
        if at in needed and rows[at][0] == "joined":
            needed[rows[at][1]] = True
            needed[rows[at][2]] = True
    place = {at: number for number, at in enumerate(sorted(needed))}
    return [told_anew(rows[at], place) for at in sorted(needed)]


def told_anew(row, place):
    """A row with the indexes of the rows that it joins exchanged."""
    if row[0] == "given":
        return row
    return "joined", place[row[1]], place[row[2]], row[3]


def derived(space, clauses, wanted):
    """A derivation that shows a clause, None if it does not follow."""
    box = space.barred(wanted)
    if box & ~space.barred_by_any(clauses):
        return None
    deriver = Deriver(space, clauses, wanted)
    return needed_rows(deriver.rows, deriver.row_barring(box, 0))
