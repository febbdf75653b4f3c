"""Things that are followed through two programs, and how both stand to one at a fork."""

from movedchecks.errors import TooMany, Unlike
from movedchecks.lags import written_channels
from movedchecks.marks import faces, faces_together, marks, moment, parts
from movedchecks.playing import road_along
from movedchecks.results import different
from movedchecks.skeletons import in_sight_at, is_comparable, words_at
from movedchecks.trees import checked_trees, written_trees

MOST_THINGS = 300
DONE = "done"
BROKEN = "broken"


def things(one, other):
    """The ascending list of all things of two programs that are followed."""
    if not is_comparable(one, other):
        raise Unlike()
    checked = different(checked_trees(one) + checked_trees(other))
    written = different(written_trees(one) + written_trees(other))
    found = [("check", face) for tree in checked for face in faces(tree)]
    for index, first in enumerate(checked):
        for second in checked[index + 1:]:
            if first[1] != second[1]:
                found.extend([("order", *both) for both in faces_together([first, second])])
    found.extend([("write", channel, place, face) for channel, place, tree in written for face in faces(tree)])
    if len(found) > MOST_THINGS:
        raise TooMany(MOST_THINGS)
    return sorted(found)


def faces_of(thing):
    """The tuple of the faces of a thing."""
    return thing[3:] if thing[0] == "write" else thing[1:]


class Watch:
    """What is kept in sight of a thing: which names hold parts of its faces, and what is checked or written of it.

    Each part has a number, its index among all, as parts nest too deep for keys of dicts.
    """

    def __init__(self, thing):
        held = faces_of(thing)
        self.marks = marks(held)
        self._parts = parts(held)
        self._indexes = {repr(part): index for index, part in enumerate(self._parts)}
        self._made = {}
        for part in self._parts:
            if part[0] == "made":
                inner = tuple([self.index_of(below) for below in part[2]])
                self._made[(part[1],) + inner] = self.index_of(part)
        self._whole = [self.index_of(face) for face in held]
        self._mark_indexes = [(mark[1], self.index_of(mark)) for mark in self.marks]
        self._written = thing[1:3] if thing[0] == "write" else (None, None)

    def index_of(self, value):
        """The number of a part, None of any other value."""
        return self._indexes.get(repr(value), None)

    def inputs_of(self, program):
        """The dict from the inputs of a program to the numbers of the parts that they are, None for no part."""
        return {name: self.index_of(("in", name)) for name in program.inputs}

    def read_at(self, numbers):
        """The dict from tuples (channel, number) to the numbers of the marks that stand for them.

        numbers are those of all marks in their order, None for a mark without one.
        """
        return {
            (channel, number): index
            for (channel, index), number in zip(self._mark_indexes, numbers)
            if number is not None
        }

    def do(self, deeds, held, counts, read):
        """Does deeds, by which held changes, the dict from names to parts, and counts, that from channels to writes.

        Returns the tuple of the first check of a face and of the list of the truths of the writes that are followed.
        This first check is the tuple of the index of the face and of the counts ahead of it, None if there is none.
        """
        first, truths = None, []
        for _, deed in deeds:
            kind, name = deed[0], deed[1]
            if kind == "make":
                held[name] = self._made.get((deed[2],) + tuple([held.get(arg, None) for arg in deed[3]]), None)
            elif kind == "read":
                held[name] = read.get((deed[2], counts.get(deed[2], 0)), None)
            elif kind == "join":
                held[name] = held.get(deed[2], None)
            elif kind == "write":
                if name == self._written[0]:
                    truths.append(self._is_told(deed[2], held))
                counts[name] += 1
            elif first is None and held.get(name, None) in self._whole:
                first = (self._whole.index(held[name]), tuple(counts.values()))
        return first, truths

    def _is_told(self, names, held):
        place = self._written[1]
        return place < len(names) and held.get(names[place], None) == self._whole[0]

    def told(self, holds):
        """The tuple of tuples (name, part), with parts for their numbers."""
        return tuple([(name, self._parts[index]) for name, index in holds])


def names_at(program, fork):
    """The ascending list of the names in sight at a fork that are made by rows."""
    return [name for name in in_sight_at(program, fork) if name not in program.inputs]


def holds_of(names, held):
    """The tuple of tuples (name, number of a part) of the names that hold a part."""
    return tuple([(name, held[name]) for name in names if held.get(name, None) is not None])


def _owed(channels, before, counts):
    """What must yet be written to come from counts to those before a check, None if it was written more often."""
    owed = []
    for channel, wanted in zip(channels, before):
        if counts[channel] > wanted:
            return None
        if counts[channel] < wanted:
            owed.append((channel, wanted - counts[channel]))
    return tuple(owed)


def _seen_of_both_checks(kind, mine, theirs):
    if kind == "check":
        return DONE if mine[1] == theirs[1] else BROKEN
    return BROKEN if mine[1] == theirs[1] and mine[0] != theirs[0] else DONE


def seen_of_checks(kind, firsts, counts, at_end):
    """What is seen of a check or an order, or DONE or BROKEN, by the first checks and the counts of both programs."""
    mine, theirs = firsts
    if mine is None and theirs is None:
        return ()
    if mine is not None and theirs is not None:
        return _seen_of_both_checks(kind, mine, theirs)
    side = int(mine is None)
    index, before = firsts[side]
    owed = _owed(list(counts[1 - side]), before, counts[1 - side])
    if owed is None or at_end:
        return BROKEN if kind == "check" else DONE
    return (side, owed) if kind == "check" else (side, index, owed)


def seen_of_write(number, truths, counts, at_end):
    """What is seen of the write with a number, or DONE or BROKEN.

    truths are what both programs tell of it, None where it was not done; counts are how often they wrote the channel.
    """
    if truths == (None, None):
        return ()
    if None not in truths:
        return DONE if truths[0] == truths[1] else BROKEN
    side = int(truths[0] is None)
    return BROKEN if at_end else (side, number + 1 - counts[1 - side], truths[side])


def truth_at(truths, index):
    """The truth of the write with this index, None if it was not done."""
    return truths[index] if index < len(truths) else None


def _deeds_along(program, passed):
    roads = program.roads()
    return [deed for fork, word in passed for deed in roads.done(fork, word)]


class Side:
    """What one of two programs has done behind a list of forks and words, as far as a Watch keeps it in sight."""

    def __init__(self, program, passed, watch, read, channels):
        self.held = watch.inputs_of(program)
        self.counts = {channel: 0 for channel in channels}
        self.check, self.truths = watch.do(_deeds_along(program, passed), self.held, self.counts, read)


def stand(one, other, thing, numbers, choices, *, number=0):
    """The stand of both programs to a thing at the fork to which choices lead, or "done" or "broken"."""
    if not is_comparable(one, other):
        raise Unlike()
    fork, passed = road_along(one, choices)
    watch = Watch(thing)
    read = watch.read_at([numbers[mark] for mark in watch.marks])
    channels = written_channels(one, other)
    mine = Side(one, passed, watch, read, channels)
    theirs = Side(other, passed, watch, read, channels)
    at_end = len(words_at(fork)) == 0
    if thing[0] == "write":
        truths = (truth_at(mine.truths, number), truth_at(theirs.truths, number))
        written = (mine.counts.get(thing[1], 0), theirs.counts.get(thing[1], 0))
        seen = seen_of_write(number, truths, written, at_end)
    else:
        seen = seen_of_checks(thing[0], (mine.check, theirs.check), (mine.counts, theirs.counts), at_end)
    if seen in (DONE, BROKEN):
        return seen
    moments = [
        moment(numbers[mark], mine.counts.get(mark[1], 0), theirs.counts.get(mark[1], 0))
        for mark in watch.marks
    ]
    holds = watch.told(holds_of(names_at(one, fork), mine.held))
    others = watch.told(holds_of(names_at(other, fork), theirs.held))
    return fork, tuple(moments), holds, others, seen
