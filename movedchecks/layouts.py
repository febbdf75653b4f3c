"""Where the rows of a program stand, and where the names that they make are in sight.

Gaps are numbered in ascending order. What a row makes is in sight at gaps that follow one another: from the one behind
the row to the end of its list, or to the end of the body if its list is once. So where a row may go is told by numbers
alone, and no program need be made for it.
"""

from movedchecks.errors import Deep, Full, NotLast, Twice, Unseen
from movedchecks.kinds import is_address
from movedchecks.rows import makes, uses

MOST_ROWS = 24
MOST_DEPTH = 4


class Layout:
    """The rows of a program by their addresses, its gaps and its names; rows have tuples for lists.

    It raises the errors of rows that do not stand by the rules, but for names that are too wide.
    """

    def __init__(self, inputs, rows):
        self._table = {}
        self._numbers = {}
        # Lists are numbered as they begin: for each gap its list, and for each list the number behind that of the
        # last gap at which what its rows make is in sight.
        self._lists = []
        self._ends = []
        # For each name the address of its row (None for an input), the number of the gap behind it, and its list.
        self._names = {name: (None, 0, 0) for name in inputs}
        # For each use the address of the row, the name, and the number of the gap at which it must be in sight.
        self._uses = []
        self._behind_leaves = {}
        self._not_last = []
        self._twice = []
        self._go_through(rows, ())
        self._refuse()

    def table(self):
        """The dict from the ascending addresses to the rows."""
        return self._table

    def makers(self):
        """The dict from the names to the addresses of the rows that make them, None for inputs."""
        return {name: self._names[name][0] for name in self._names}

    def gaps(self):
        """The ascending list of all gaps."""
        return list(self._numbers)

    def has_gap(self, thing):
        """Whether any value is a gap."""
        return is_address(thing) and thing in self._numbers

    def in_sight(self, gap):
        """The ascending list of the names in sight at a gap, inputs too."""
        return sorted([name for name in self._names if self._is_seen(name, self._numbers[gap])])

    def reach(self, address):
        """The ascending list of the gaps at which the plain row at an address can stand."""
        row = self._table[address]
        low, high = 0, len(self._lists)
        for used in uses(row):
            _, first, mine = self._names[used]
            low, high = max(low, first), min(high, self._ends[mine])
        made = makes(row)
        needed = [number for _, name, number in self._uses if name in made]
        # What the row makes comes in sight ahead of its first use, and stays so up to the last one.
        high, last = min([high] + [number + 1 for number in needed]), max(needed, default=0)
        gaps = self.gaps()
        return [
            gaps[number] for number in range(low, high)
            if last < self._ends[self._lists[number]] and gaps[number] not in self._behind_leaves
        ]

    def _go_through(self, rows, road):
        """Notes a list of rows, to which a road leads, and all that is in it; returns its number."""
        mine = len(self._ends)
        self._ends.append(0)
        for index, row in enumerate(rows):
            here = road + (index,)
            self._note_gap(here, mine)
            self._table[here] = row
            if row[0] in ("if", "loop"):
                self._go_into(row, here)
            elif row[0] == "leave":
                self._note_leave(here, len(rows))
            self._note_uses(row, here)
            for name in makes(row):
                self._note_name(name, here, mine)
        self._note_gap(road + (len(rows),), mine)
        self._ends[mine] = len(self._lists)
        return mine

    def _go_into(self, row, here):
        one = self._go_through(row[1], here + (0,))
        self._go_through(row[2], here + (1,))
        if row[0] == "loop":
            # What once makes is in sight in the body, too; yes and no see nothing of one another.
            self._ends[one] = len(self._lists)

    def _note_gap(self, gap, mine):
        self._numbers[gap] = len(self._lists)
        self._lists.append(mine)

    def _note_leave(self, here, length):
        behind = here[-1] + 1
        self._behind_leaves[here[:-1] + (behind,)] = True
        if behind < length:
            self._not_last.append(here)

    def _note_uses(self, row, here):
        if row[0] == "if":
            # Joins take their names from the ends of the lists of the if.
            yes, no = [self._numbers[here + (side, len(row[1 + side]))] for side in (0, 1)]
            for _, one, other in row[3]:
                self._uses.append((here, one, yes))
                self._uses.append((here, other, no))
        else:
            for name in uses(row):
                self._uses.append((here, name, self._numbers[here]))

    def _note_name(self, name, here, mine):
        if name in self._names:
            self._twice.append(name)
        self._names[name] = (here, len(self._lists), mine)

    def _is_seen(self, name, number):
        """Whether a name is in sight at the gap with a number."""
        if name not in self._names:
            return False
        _, first, mine = self._names[name]
        return first <= number < self._ends[mine]

    def _refuse(self):
        if len(self._table) > MOST_ROWS:
            raise Full(MOST_ROWS)
        # An address has two numbers for each list but the outermost one, and one more.
        if max([len(gap) for gap in self._numbers]) > 2 * MOST_DEPTH - 1:
            raise Deep(MOST_DEPTH)
        if len(self._not_last) > 0:
            raise NotLast(self._not_last[0])
        if len(self._twice) > 0:
            raise Twice(min(self._twice))
        unseen = [use for use in self._uses if not self._is_seen(use[1], use[2])]
        if len(unseen) > 0:
            # The uses of an if are noted behind those of the rows in its lists, whose addresses are greater.
            least = min([use[0] for use in unseen])
            names = [use[1] for use in unseen if use[0] == least]
            raise Unseen(least, names[0])
