"""Programs: rows that stand by the rules, and programs that come by editing them."""

from movedchecks.errors import (
    Deep, Full, Inside, NoGap, NoName, NoRow, NotLast, Twice, Unseen, Wide, Wrong
)
from movedchecks.kinds import are_names, is_address, is_name
from movedchecks.rows import (
    are_rows, count, depth, frozen, held_lists, is_plain, is_row, makes, rearranged, renamed, uses
)
from movedchecks.skeletons import Roads
from movedchecks.variants import Variants

MOST_INPUTS = 4
MOST_ROWS = 24
MOST_DEPTH = 4


def _are_inputs(thing):
    return are_names(thing, MOST_INPUTS) and len(set(thing)) == len(thing)


def _lists_at(rows, road):
    """The list of tuples (road, list of rows) of this list and of all in it; a road leads to a list."""
    found = [(road, rows)]
    for index, row in enumerate(rows):
        for number, part in enumerate(held_lists(row)):
            found.extend(_lists_at(part, road + (index, number)))
    return found


def _table_of(rows):
    """The dict from the addresses to the rows, addresses ascending."""
    table = {}
    for road, part in _lists_at(rows, ()):
        for index, row in enumerate(part):
            table[road + (index,)] = row
    return {address: table[address] for address in sorted(table)}


def _note_sights(rows, road, seen, sights):
    """Notes what is in sight at each gap of a list and of those in it; returns what is in sight at its end."""
    for index, row in enumerate(rows):
        here = road + (index,)
        sights[here] = seen
        inner = seen
        for number, part in enumerate(held_lists(row)):
            end = _note_sights(part, here + (number,), inner, sights)
            # What once makes is in sight in the body; yes and no see nothing of one another.
            inner = end if row[0] == "loop" else seen
        seen = seen + tuple(makes(row))
    sights[road + (len(rows),)] = seen
    return seen


def _check_leaves(rows):
    wrong = [
        road + (index,)
        for road, part in _lists_at(rows, ())
        for index, row in enumerate(part[:-1])
        if row[0] == "leave"
    ]
    if len(wrong) > 0:
        raise NotLast(min(wrong))


def _check_makers(inputs, table):
    known = _as_keys(inputs)
    twice = []
    for row in table.values():
        for name in makes(row):
            if name in known:
                twice.append(name)
            known[name] = True
    if len(twice) > 0:
        raise Twice(min(twice))


def _as_keys(names):
    return {name: True for name in names}


def _first_unseen(address, row, sights):
    """The first of the names that a row uses that is not in sight, None if all are."""
    if row[0] == "if":
        # Joins take their names from the ends of the lists of the if, in turns.
        yes = _as_keys(sights[address + (0, len(row[1]))])
        no = _as_keys(sights[address + (1, len(row[2]))])
        seen = [yes, no] * len(row[3])
    else:
        seen = [_as_keys(sights[address])] * len(uses(row))
    unseen = [name for name, names in zip(uses(row), seen) if name not in names]
    return unseen[0] if len(unseen) > 0 else None


def _check_sights(table, sights):
    for address in table:
        name = _first_unseen(address, table[address], sights)
        if name is not None:
            raise Unseen(address, name)


class Program:
    """A program; it never changes."""

    def __init__(self, inputs, rows):
        if not _are_inputs(inputs):
            raise Wrong(0)
        if not are_rows(rows):
            raise Wrong(1)
        if count(rows) > MOST_ROWS:
            raise Full(MOST_ROWS)
        if depth(rows) > MOST_DEPTH:
            raise Deep(MOST_DEPTH)
        self._inputs = tuple(sorted(inputs))
        self._rows = tuple([frozen(row) for row in rows])
        self._table = _table_of(self._rows)
        self._sights = {}
        _check_leaves(self._rows)
        _check_makers(self._inputs, self._table)
        _note_sights(self._rows, (), self._inputs, self._sights)
        _check_sights(self._table, self._sights)
        self._variants = Variants(self._inputs, self._rows)
        if len(self._variants.wide()) > 0:
            raise Wide(self._variants.wide()[0])
        # Most that is asked of a program asks for its ways: they are found once.
        self._roads = Roads(self._rows, self._table)
        self._makers = {name: None for name in self._inputs}
        for address in self._table:
            for name in makes(self._table[address]):
                self._makers[name] = address

    def __eq__(self, other):
        return isinstance(other, Program) and self._inputs == other._inputs and self._rows == other._rows

    def __len__(self):
        return len(self._table)

    @property
    def inputs(self):
        """The ascending tuple of the inputs."""
        return self._inputs

    def rows(self):
        """The list of the rows, with tuples for lists."""
        return list(self._rows)

    def addresses(self):
        """The ascending list of the addresses of all rows."""
        return list(self._table)

    def has_row(self, thing):
        """Whether any value is the address of a row."""
        return is_address(thing) and thing in self._table

    def has_plain_row(self, thing):
        """Whether any value is the address of a plain row."""
        return self.has_row(thing) and is_plain(self._table[thing])

    def has_gap(self, thing):
        """Whether any value is a gap."""
        return is_address(thing) and thing in self._sights

    def plain_row_at(self, address):
        """The plain row at an address."""
        if not self.has_plain_row(address):
            raise NoRow(address)
        return self._table[address]

    def row_at(self, address):
        """The row at an address."""
        if not self.has_row(address):
            raise NoRow(address)
        return self._table[address]

    def gaps(self):
        """The ascending list of all gaps."""
        return sorted(self._sights)

    def in_sight(self, gap):
        """The ascending list of the names in sight at a gap, inputs too."""
        if not self.has_gap(gap):
            raise NoGap(gap)
        return sorted(self._sights[gap])

    def names(self):
        """The ascending list of the names that are made."""
        return sorted([name for name in self._makers if self._makers[name] is not None])

    def row_of(self, name):
        """The address of the row that makes a name, None for an input."""
        if not is_name(name) or name not in self._makers:
            raise NoName(name)
        return self._makers[name]

    def used_channels(self):
        """The ascending list of the channels that are read or written."""
        read = [row[2] for row in self.rows_of("read")]
        written = [row[1] for row in self.rows_of("write")]
        return sorted(set(read + written))

    def rows_of(self, kind):
        """The list of all rows of a kind, in the order of their addresses."""
        return [row for row in self._table.values() if row[0] == kind]

    def roads(self):
        """The ways from its forks; they never change."""
        return self._roads

    def variants(self):
        """The trees of its names; they never change."""
        return self._variants

    def put(self, gap, row):
        """The Program with a row at a gap, ahead of what stands behind it."""
        if not is_address(gap):
            raise Wrong(0)
        if not is_row(row):
            raise Wrong(1)
        if not self.has_gap(gap):
            raise NoGap(gap)
        return self.rearranged({}, {gap: [row]})

    def out(self, address):
        """The Program without a row and all that stands in its lists."""
        if not self.has_row(address):
            raise NoRow(address)
        return self.rearranged({address: True}, {})

    def moved(self, address, gap):
        """The Program in which the row at an address is at a gap, told with the row where it is now."""
        if not self.has_row(address):
            raise NoRow(address)
        if not self.has_gap(gap):
            raise NoGap(gap)
        if len(gap) > len(address) and gap[:len(address)] == address:
            raise Inside(gap)
        return self.rearranged({address: True}, {gap: [self._table[address]]})

    def rearranged(self, gone, coming):
        """The Program without the rows at the keys of gone, and with the rows that coming has for gaps."""
        return Program(self._inputs, rearranged(self._rows, gone, coming))

    def renamed(self, names):
        """The Program with other names; the dict has one for each input and each made name."""
        return Program([names[name] for name in self._inputs], [renamed(row, names) for row in self._rows])
