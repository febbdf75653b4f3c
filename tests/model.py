"""A second telling of the document, kept as plain as can be, against which the package is tested.

Nothing of the package is used here but `Program` (to build random programs) and its errors.
"""

import itertools
import random

from movedchecks.errors import MoveError
from movedchecks.programs import Program

KINDS = ("if", "loop", "leave")


class Halt(Exception):
    """The run ends, or it stands at a fork at which no word is left."""


class Machine:
    """A run that goes straight through the rows, list by list."""

    def __init__(self, program, words, bad=()):
        self.words, self.bad = list(words), list(bad)
        self.used = 0
        self.wrong = None
        self.fork = None
        self.end = None
        self.stop = None
        self.events = []
        self.forks = []
        self.held = {name: ("in", name) for name in program.inputs}
        self.writes = {}
        try:
            self.do(program.rows(), (), ())
            self.stand(("end", ()))
            self.end = ("done",)
        except Halt:
            pass
        if self.end is not None and self.end[0] != "error" and self.used < len(self.words):
            self.wrong = self.used

    def stand(self, fork):
        self.fork = fork
        self.forks.append((fork, {channel: len(rows) for channel, rows in self.writes.items()}))

    def choose(self, fork, words):
        self.stand(fork)
        if self.used == len(self.words):
            raise Halt
        word = self.words[self.used]
        if word not in words:
            self.wrong = self.used
            raise Halt
        self.used += 1
        return word

    def tell(self, *event):
        self.events.append(event)

    def do(self, rows, path, road):
        index = -1
        for place, row in enumerate(rows):
            index += row[0] in KINDS
            getattr(self, "do_" + row[0])(row, path + (index,), road + (place,))

    def do_make(self, row, path, address):
        self.held[row[1]] = ("made", row[2], tuple(self.held[name] for name in row[3]))
        self.tell("make", row[1], self.held[row[1]])

    def do_read(self, row, path, address):
        self.held[row[1]] = ("seen", row[2], len(self.writes.get(row[2], [])))
        self.tell("read", row[1], self.held[row[1]])

    def do_check(self, row, path, address):
        result = self.held[row[1]]
        self.tell("check", row[1], result)
        if result in self.bad:
            self.fork, self.end, self.stop = None, ("error", result[1]), (address, self.used)
            raise Halt

    def do_write(self, row, path, address):
        results = tuple(self.held[name] for name in row[2])
        self.writes.setdefault(row[1], []).append(results)
        self.tell("write", row[1], results)

    def do_if(self, row, path, address):
        side = 0 if self.choose(("if", path), ("no", "yes")) == "yes" else 1
        self.do(row[1 + side], path + (side,), address + (side,))
        for join in row[3]:
            self.held[join[0]] = self.held[join[1 + side]]
            self.tell("join", join[0], self.held[join[0]])

    def do_loop(self, row, path, address):
        word = self.choose(("first", path), ("out", "round"))
        if word == "round":
            self.do(row[1], path + (0,), address + (0,))
        while word == "round":
            self.do(row[2], path + (1,), address + (1,))
            word = self.choose(("again", path), ("out", "round"))

    def do_leave(self, row, path, address):
        self.stand(("leave", path))
        self.end = ("left",)
        raise Halt

    def seen(self):
        return self.writes, self.end


def words_of(fork):
    return {"if": ["no", "yes"], "first": ["out", "round"], "again": ["out", "round"]}.get(fork[0], [])


def choices_up_to(program, most):
    """All choices of at most so many words, whole or not, fewer words first, then the lesser ones."""
    level = [[]]
    found = []
    for _ in range(most + 1):
        found.extend(level)
        level = [
            words + [word]
            for words in level
            for word in words_of(Machine(program, words).fork)
        ]
    return found


def whole_up_to(program, most):
    return [words for words in choices_up_to(program, most) if Machine(program, words).end is not None]


def few_rounds(program, most=None):
    """All whole choices with at most two rounds of each loop, whenever it is come to."""
    found = []
    begun = [([], ())]
    while begun:
        words, rounds = begun.pop()
        fork = Machine(program, words).fork
        if not words_of(fork):
            found.append(words)
        for word in words_of(fork):
            if fork[0] == "if":
                begun.append((words + [word], rounds))
            elif word == "out":
                begun.append((words + [word], rounds[:-1] if fork[0] == "again" else rounds))
            elif fork[0] == "first":
                begun.append((words + [word], rounds + (1,)))
            elif rounds[-1] < 2:
                begun.append((words + [word], rounds[:-1] + (rounds[-1] + 1,)))
        if most is not None and len(found) > most:
            return None
    return found


def all_rows(rows, road=()):
    for index, row in enumerate(rows):
        yield road + (index,), row
        if row[0] in ("if", "loop"):
            yield from all_rows(row[1], road + (index, 0))
            yield from all_rows(row[2], road + (index, 1))


def list_at(rows, road):
    for index, number in zip(road[::2], road[1::2]):
        rows = rows[index][1 + number]
    return rows


def all_gaps(rows, road=()):
    here = list_at(rows, road)
    found = [road + (index,) for index in range(len(here) + 1)]
    for index, row in enumerate(here):
        if row[0] in ("if", "loop"):
            found += all_gaps(rows, road + (index, 0)) + all_gaps(rows, road + (index, 1))
    return sorted(found)


def made_by(row):
    if row[0] == "if":
        return {join[0] for join in row[3]}
    return {row[1]} if row[0] in ("make", "read") else set()


def in_sight(inputs, rows, gap):
    """The definition of "in sight", word by word."""
    seen = set()
    for row in list_at(rows, gap[:-1])[:gap[-1]]:
        seen |= made_by(row)
    if len(gap) == 1:
        return seen | set(inputs)
    owner, number = gap[:-2], gap[-2]
    row = list_at(rows, owner[:-1])[owner[-1]]
    if row[0] == "loop" and number == 1:
        return seen | in_sight(inputs, rows, owner + (0, len(row[1])))
    return seen | in_sight(inputs, rows, owner)


def trees_of(inputs, rows, name):
    """All trees of a name: one for each choice of lists of all ifs."""
    makers, ifs = {}, []
    for address, row in all_rows(rows):
        if row[0] == "if":
            ifs.append(address)
            makers.update({join[0]: (address, join) for join in row[3]})
        elif row[0] in ("make", "read"):
            makers[row[1]] = (address, row)

    def tree(name, sides):
        if name in inputs:
            return ("in", name)
        address, row = makers[name]
        if row[0] == "make" and len(row) == 4:
            return ("made", row[2], tuple(tree(arg, sides) for arg in row[3]))
        if row[0] == "read" and address not in ifs:
            return ("seen", row[2])
        return tree(row[1 + sides[address]], sides)

    found = []
    for sides in itertools.product((0, 1), repeat=len(ifs)):
        one = tree(name, dict(zip(ifs, sides)))
        if one not in found:
            found.append(one)
    return sorted(found)


def parts_of(tree):
    return 1 + sum(parts_of(part) for part in tree[2]) if tree[0] == "made" else 1


def readings_of(tree):
    return sum(readings_of(part) for part in tree[2]) if tree[0] == "made" else int(tree[0] == "seen")


class Maker:
    """Builds random programs, always the same ones for the same seed."""

    def __init__(self, seed, inputs=("a", "b"), words=("f", "g"), channels=("c", "d"), leaves=True):
        self.random = random.Random(seed)
        self.inputs, self.words, self.channels, self.leaves = inputs, words, channels, leaves
        self.count = 0

    def name(self):
        self.count += 1
        letters = "abcdefghijklmnopqrstuvwxyz"
        return "x" + letters[self.count // 26 % 26] + letters[self.count % 26]

    def args(self, seen, most):
        return [self.random.choice(seen) for _ in range(self.random.randint(0, most))] if seen else []

    def row(self, seen, room, depth):
        """A row that may stand where these names are in sight, and the names that it makes."""
        kinds = ["make", "make", "make", "read", "write"] + (["check", "check", "check"] if seen else [])
        if depth > 1 and room > 2:
            kinds += ["if", "loop"] * 3
        kind = self.random.choice(kinds)
        name = self.name()
        if kind == "make":
            return ("make", name, self.random.choice(self.words), self.args(seen, 2)), [name]
        if kind == "read":
            return ("read", name, self.random.choice(self.channels)), [name]
        if kind == "write":
            return ("write", self.random.choice(self.channels), self.args(seen, 2)), []
        if kind == "check":
            return ("check", self.random.choice(seen[-3:])), []
        one, sight = self.rows(seen, room // 2, depth - 1)
        if kind == "loop":
            return ("loop", one, self.rows(sight, room // 2, depth - 1)[0]), []
        other, behind = self.rows(seen, room // 2, depth - 1)
        joins = []
        for _ in range(self.random.choice((0, 0, 1, 2)) if sight and behind else 0):
            joins.append((self.name(), self.random.choice(sight), self.random.choice(behind)))
        return ("if", one, other, joins), [join[0] for join in joins]

    def rows(self, seen, room, depth):
        seen, rows = list(seen), []
        for _ in range(self.random.choice((1, 2, 3, 4)) if room > 2 else self.random.randint(0, room)):
            row, names = self.row(seen, room, depth)
            rows.append(row)
            seen += names
        if self.leaves and depth < 4 and self.random.random() < 0.15:
            rows.append(("leave",))
        return rows, seen

    def program(self, least=6, most=16, depth=4):
        while True:
            rows = self.rows(self.inputs, most, depth)[0]
            if self.leaves and self.random.random() < 0.1:
                rows.append(("leave",))
            if least <= len(list(all_rows(rows))) <= most:
                try:
                    return Program(list(self.inputs), rows)
                except MoveError:
                    pass

    def changed(self, program, many=3):
        """A program with the same skeleton: some plain rows are moved, put, left out or done twice."""
        for _ in range(many):
            plain = [
                address for address in program.addresses()
                if program.row_at(address)[0] not in KINDS
            ]
            gap = self.random.choice(program.gaps())
            deed = self.random.choice(("move", "move", "move", "out", "put", "again"))
            try:
                if deed == "put":
                    program = program.put(gap, self.row(program.in_sight(gap), 0, 1)[0])
                elif plain:
                    address = self.random.choice(plain)
                    row = program.row_at(address)
                    if deed == "move":
                        program = program.moved(address, gap)
                    elif deed == "out":
                        program = program.out(address)
                    elif row[0] in ("check", "write"):
                        program = program.put(gap, row)
            except MoveError:
                pass
        return program

    def near(self, program, many=3):
        """As changed, but rows go only past a neighbour: many such programs show the same."""
        for _ in range(many):
            address = self.random.choice(program.addresses() or [(0,)])
            gap = address[:-1] + (address[-1] + 2,)
            try:
                both = [program.row_at(address), program.row_at(address[:-1] + (address[-1] + 1,))]
                if all(row[0] not in KINDS for row in both):
                    program = program.moved(address, gap)
            except MoveError:
                pass
        return program
