"""A program that is edited, beside the first one, with a log of what was done."""

from movedchecks.alike import are_alike, parting
from movedchecks.errors import Full, MoveError, NoDeed, NoEntry, NoName, Nothing, Refused, Wrong
from movedchecks.kinds import is_address, is_integer, is_name
from movedchecks.programs import Program
from movedchecks.rows import frozen, is_row


def is_deed(thing):
    """Whether thing is a deed, with addresses, names and rows by their form."""
    if not isinstance(thing, tuple) or len(thing) == 0:
        return False
    kind, parts = thing[0], thing[1:]
    if kind == "put":
        return len(parts) == 2 and is_address(parts[0]) and is_row(parts[1])
    if kind == "out":
        return len(parts) == 1 and is_address(parts[0])
    if kind == "move":
        return len(parts) == 2 and is_address(parts[0]) and is_address(parts[1])
    if kind == "name":
        return len(parts) == 2 and is_name(parts[0]) and is_name(parts[1])
    return kind == "keep" and len(parts) == 0


def _frozen_deed(deed):
    """The deed with tuples for the lists of its row."""
    if deed[0] == "put":
        return ("put", deed[1], frozen(deed[2]))
    return deed


def _with_name(program, elder, new):
    """The Program in which an input or a made name has another name."""
    # Asking for its row raises the error for an elder name that there is not.
    program.row_of(elder)
    names = {name: name for name in list(program.inputs) + program.names()}
    if new in names:
        raise NoName(new)
    names[elder] = new
    return program.renamed(names)


def _edited(program, deed):
    """The Program behind a deed; it raises an error of its own where there is none."""
    if deed[0] == "put":
        return program.put(deed[1], deed[2])
    if deed[0] == "out":
        return program.out(deed[1])
    if deed[0] == "move":
        return program.moved(deed[1], deed[2])
    if deed[0] == "name":
        return _with_name(program, deed[1], deed[2])
    return program


class Book:
    """A program that is edited, the first one, and the deeds that were done and undone."""

    MOST = 200

    def __init__(self, program):
        if not isinstance(program, Program):
            raise Wrong(0)
        self._made_with = program
        # Tuples of a deed, and of the program and the first one behind it; those undone have the next one at the end.
        self._done = []
        self._undone = []

    def __eq__(self, other):
        return isinstance(other, Book) and self._made_with == other._made_with and self.log() == other.log()

    def __len__(self):
        return len(self._done)

    @property
    def program(self):
        """The Program as it is."""
        return self._done[-1][1] if len(self._done) > 0 else self._made_with

    @property
    def first(self):
        """The Program with which it is compared."""
        return self._done[-1][2] if len(self._done) > 0 else self._made_with

    def do(self, deed):
        """Does a deed."""
        if not is_deed(deed):
            raise NoDeed()
        if len(self._done) >= Book.MOST:
            raise Full(Book.MOST)
        kept = _frozen_deed(deed)
        try:
            program = _edited(self.program, kept)
        except MoveError:
            raise Refused(kept) from None
        self._done.append((kept, program, program if kept[0] == "keep" else self.first))
        self._undone = []

    def back(self):
        """Undoes the last deed of the log and returns it."""
        if len(self._done) == 0:
            raise Nothing()
        self._undone.append(self._done.pop())
        return self._undone[-1][0]

    def again(self):
        """Does the deed again that was undone last, and returns it."""
        if len(self._undone) == 0:
            raise Nothing()
        self._done.append(self._undone.pop())
        return self._done[-1][0]

    def past(self, many):
        """A new Book that has done the first many deeds of the log."""
        if not is_integer(many) or not 0 <= many <= len(self._done):
            raise NoEntry(many)
        return self._in_state(self._done[:many], [])

    def copied(self):
        """A Book in the same state, with what was undone, that goes on by itself."""
        return self._in_state(self._done, self._undone)

    def log(self):
        """The list of the deeds."""
        return [entry[0] for entry in self._done]

    def is_safe(self, *, most=2000):
        """Whether the first program and the one as it is are alike."""
        return are_alike(self.first, self.program, most=most)

    def parting(self, *, most=2000):
        """A parting of the first program and the one as it is; None if they are alike."""
        return parting(self.first, self.program, most=most)

    def trial(self, act):
        """What act returns for this Book, which is behind it as it was ahead of it, whatever happens."""
        done, undone = list(self._done), list(self._undone)
        try:
            return act(self)
        finally:
            self._done, self._undone = done, undone

    def _in_state(self, done, undone):
        """A new Book of the same program with these deeds done and undone."""
        book = Book(self._made_with)
        book._done = list(done)
        book._undone = list(undone)
        return book
