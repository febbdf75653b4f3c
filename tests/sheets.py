"""A second telling of edits: rows as lists of cells with a pin at each gap, so that cells are taken and put plainly."""

from movedchecks.errors import MoveError
from movedchecks.programs import Program
from tests import model


class Pin:
    """Stands at a gap."""

    def __init__(self, gap):
        self.gap = gap


class Cell:
    def __init__(self, row, address, lists=()):
        self.row, self.address, self.lists = row, address, lists


def cells_of(rows, road=()):
    found = [Pin(road + (0,))]
    for index, row in enumerate(rows):
        here = road + (index,)
        parts = row[1:3] if row[0] in ("if", "loop") else ()
        found += [Cell(row, here, [cells_of(part, here + (number,)) for number, part in enumerate(parts)])]
        found.append(Pin(road + (index + 1,)))
    return found


def rows_of(cells):
    found = []
    for cell in cells:
        if isinstance(cell, Cell):
            row = cell.row
            found.append((row[0], *[rows_of(part) for part in cell.lists], *row[3:]) if cell.lists else row)
    return found


class Sheet:
    """The rows of a program, told with the addresses and gaps that they had at first, whatever is done to them."""

    def __init__(self, program):
        self.inputs, self.cells = program.inputs, cells_of(program.rows())

    def lists(self):
        waiting = [self.cells]
        while waiting:
            part = waiting.pop()
            yield part
            waiting += [inner for cell in part if isinstance(cell, Cell) for inner in cell.lists]

    def find(self, wanted):
        for part in self.lists():
            for index, cell in enumerate(part):
                if wanted(cell):
                    return part, index
        raise AssertionError

    def take(self, address):
        part, index = self.find(lambda cell: isinstance(cell, Cell) and cell.address == address)
        return part.pop(index).row

    def put(self, gap, row):
        part, index = self.find(lambda cell: isinstance(cell, Pin) and cell.gap == gap)
        part.insert(index, Cell(row, None))
        return self

    def move(self, address, gap):
        return self.put(gap, self.take(address))

    def program(self):
        return Program(self.inputs, rows_of(self.cells))


def or_error(call):
    """What a call returns, or the kind of its error and what this keeps."""
    try:
        return call()
    except MoveError as error:
        return type(error), vars(error)


def plain_addresses(program):
    return [address for address, row in model.all_rows(program.rows()) if row[0] not in model.KINDS]


def checks_of(program):
    return [address for address in plain_addresses(program) if program.row_at(address)[0] == "check"]


def no_plain_addresses(program):
    """Addresses of ifs, loops and leaves, gaps at ends, and lists for tuples."""
    rows = program.addresses()
    found = [address for address in rows if address not in plain_addresses(program)]
    found += [gap for gap in program.gaps() if gap not in rows]
    return found + [list(address) for address in rows] + [address + (0,) for address in rows] + [program, True, False]


def with_words(row, table):
    """The row with other inputs, words and channels."""
    if row[0] in ("if", "loop"):
        lists = [[with_words(inner, table) for inner in part] for part in row[1:3]]
        joins = [[tuple([table.get(name, name) for name in join]) for join in part] for part in row[3:]]
        return (row[0], *lists, *joins)
    return (row[0], *[
        tuple([table.get(name, name) for name in part]) if isinstance(part, tuple) else table.get(part, part)
        for part in row[1:]
    ])
