"""Programs: rows that stand by the rules, and programs that come by editing them."""

from movedchecks.errors import Inside, NoGap, NoName, NoRow, Wide, Wrong
from movedchecks.kinds import are_names, is_address, is_name
from movedchecks.layouts import Layout
from movedchecks.rows import are_rows, frozen, is_plain, is_row, rearranged, renamed
from movedchecks.skeletons import Roads
from movedchecks.variants import Variants

MOST_INPUTS = 4


def _are_inputs(thing):
    return are_names(thing, MOST_INPUTS) and len(set(thing)) == len(thing)


def _narrow_variants(inputs, rows):
    """The trees of all names of rows; none of the names is wide."""
    variants = Variants(inputs, rows)
    if len(variants.wide()) > 0:
        raise Wide(variants.wide()[0])
    return variants


class Program:
    """A program; it never changes."""

    def __init__(self, inputs, rows):
        if not _are_inputs(inputs):
            raise Wrong(0)
        if not are_rows(rows):
            raise Wrong(1)
        self._fill(tuple(sorted(inputs)), tuple([frozen(row) for row in rows]), None)

    def _fill(self, inputs, rows, variants):
        """Takes ascending inputs and rows with tuples for lists; variants are None if they are still to be found."""
        self._inputs = inputs
        self._rows = rows
        self._layout = Layout(inputs, rows)
        self._table = self._layout.table()
        self._makers = self._layout.makers()
        self._variants = _narrow_variants(inputs, rows) if variants is None else variants
        # Many programs are made of which nothing is asked for which their ways are needed.
        self._roads = None

    def _with_rows(self, rows, variants):
        """The Program of other rows, which are known to be rows by their form, with tuples for lists."""
        program = Program((), ())
        program._fill(self._inputs, rows, variants)
        return program

    def __eq__(self, other):
        return isinstance(other, Program) and self._inputs == other._inputs and self._rows == other._rows

    def __len__(self):
        return len(self._table)

    @property
    def inputs(self):
        """The ascending tuple of the inputs."""
        return self._inputs

    def rows(self):
        """The list of the rows, with tuples for lists."""
        return list(self._rows)

    def addresses(self):
        """The ascending list of the addresses of all rows."""
        return list(self._table)

    def has_row(self, thing):
        """Whether any value is the address of a row."""
        return is_address(thing) and thing in self._table

    def has_plain_row(self, thing):
        """Whether any value is the address of a plain row."""
        return self.has_row(thing) and is_plain(self._table[thing])

    def has_gap(self, thing):
        """Whether any value is a gap."""
        return self._layout.has_gap(thing)

    def plain_row_at(self, address):
        """The plain row at an address."""
        if not self.has_plain_row(address):
            raise NoRow(address)
        return self._table[address]

    def row_at(self, address):
        """The row at an address."""
        if not self.has_row(address):
            raise NoRow(address)
        return self._table[address]

    def gaps(self):
        """The ascending list of all gaps."""
        return self._layout.gaps()

    def in_sight(self, gap):
        """The ascending list of the names in sight at a gap, inputs too."""
        if not self.has_gap(gap):
            raise NoGap(gap)
        return self._layout.in_sight(gap)

    def names(self):
        """The ascending list of the names that are made."""
        return sorted([name for name in self._makers if self._makers[name] is not None])

    def row_of(self, name):
        """The address of the row that makes a name, None for an input."""
        if not is_name(name) or name not in self._makers:
            raise NoName(name)
        return self._makers[name]

    def used_channels(self):
        """The ascending list of the channels that are read or written."""
        read = [row[2] for row in self.rows_of("read")]
        written = [row[1] for row in self.rows_of("write")]
        return sorted(set(read + written))

    def rows_of(self, kind):
        """The list of all rows of a kind, in the order of their addresses."""
        return [row for row in self._table.values() if row[0] == kind]

    def roads(self):
        """The ways from its forks; they are found once, and never change."""
        if self._roads is None:
            self._roads = Roads(self._rows, self._table)
        return self._roads

    def variants(self):
        """The trees of its names; they never change."""
        return self._variants

    def put(self, gap, row):
        """The Program with a row at a gap, ahead of what stands behind it."""
        if not is_address(gap):
            raise Wrong(0)
        if not is_row(row):
            raise Wrong(1)
        if not self.has_gap(gap):
            raise NoGap(gap)
        return self._with_rows(rearranged(self._rows, {}, {gap: [frozen(row)]}), None)

    def out(self, address):
        """The Program without a row and all that stands in its lists."""
        if not self.has_row(address):
            raise NoRow(address)
        return self.rearranged({address: True}, {})

    def moved(self, address, gap):
        """The Program in which the row at an address is at a gap, told with the row where it is now."""
        if not self.has_row(address):
            raise NoRow(address)
        if not self.has_gap(gap):
            raise NoGap(gap)
        if len(gap) > len(address) and gap[:len(address)] == address:
            raise Inside(gap)
        return self.rearranged({address: True}, {gap: [self._table[address]]})

    def rearranged(self, gone, coming):
        """The Program without the rows at the keys of gone, and with the rows of its own that coming has for gaps."""
        # What is left is made of the same as before, wherever it stands now: its trees are known.
        return self._with_rows(rearranged(self._rows, gone, coming), self._variants)

    def reach(self, address):
        """The ascending list of the gaps to which the plain row at an address can be moved."""
        self.plain_row_at(address)
        return self._layout.reach(address)

    def renamed(self, names):
        """The Program with other names; the dict has one for each input and each made name."""
        return Program([names[name] for name in self._inputs], [renamed(row, names) for row in self._rows])
