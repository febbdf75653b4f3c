"""Random programs near to the limits of the document, and pairs of them with lags."""

from movedchecks.errors import MoveError
from movedchecks.programs import Program
from tests.model import Maker


def length_without_leave(rows):
    return len(rows) - int(len(rows) > 0 and rows[-1] == ("leave",))


class Dense(Maker):
    """Builds programs in which most of what is read, made and joined is checked or written."""

    def ifs_and_loops(self, depth=3):
        rows = []
        for _ in range(self.random.choice((1, 1, 2)) if depth == 3 else self.random.choice((0, 0, 1))):
            if depth > 1:
                one, other = self.ifs_and_loops(depth - 1), self.ifs_and_loops(depth - 1)
                rows.append(("loop", one, other) if self.random.random() < 0.6 else ("if", one, other, []))
        return rows + [("leave",)] if self.random.random() < 0.05 else rows

    def skeleton(self):
        while True:
            try:
                return Program(self.inputs, self.ifs_and_loops())
            except MoveError:
                pass

    def names_for(self, program, gap):
        """Some names in sight at a gap, mostly made ones; often it is left where there are none."""
        made = [name for name in program.in_sight(gap) if name not in program.inputs]
        if not made and self.random.random() < 0.8:
            raise MoveError
        names = made if made and self.random.random() < 0.9 else program.in_sight(gap)
        return [self.random.choice(names) for _ in range(self.random.choice((1, 1, 2)))]

    def check_at(self, program, gap):
        """A check of a name in sight that is made, mostly of one that is checked nowhere."""
        made = [name for name in program.in_sight(gap) if name not in program.inputs
                and program.row_at(program.row_of(name))[0] != "read"]
        checked = [program.row_at(address)[1] for address in program.addresses()
                   if program.row_at(address)[0] == "check"]
        if self.random.random() < 0.8:
            made = [name for name in made if name not in checked]
        if not made:
            raise MoveError
        return ("check", self.random.choice(made))

    def with_join(self, program):
        ifs = [address for address in program.addresses() if program.row_at(address)[0] == "if"]
        if not ifs:
            return program
        address = self.random.choice(ifs)
        row = program.row_at(address)
        ends = [program.in_sight(address + (side, length_without_leave(row[1 + side]))) for side in (0, 1)]
        join = (self.name(), *[self.random.choice(end) for end in ends])
        return program.out(address).put(address, (*row[:3], (*row[3], join)))

    def plain_row(self, kind, program, gap):
        if kind == "make":
            return ("make", self.name(), self.random.choice(self.words), self.names_for(program, gap))
        if kind == "read":
            return ("read", self.name(), self.random.choice(self.channels))
        if kind == "write":
            return ("write", self.random.choice(self.channels), self.names_for(program, gap))
        return self.check_at(program, gap)

    def gap_in(self, program):
        deep = [gap for gap in program.gaps() if len(gap) > 1]
        return self.random.choice(deep if deep and self.random.random() < 0.7 else program.gaps())

    def dense(self, rows=16, checks=4, writes=3, reads=3):
        """A program of so many rows at most, with so many checks, writes and reads at most."""
        program = self.skeleton()
        plan = ["read"] * reads + ["join"] * self.random.choice((0, 1, 2)) + ["make"] * 3
        plan += ["check"] * checks + ["write"] * writes
        if self.random.random() < 0.5:
            self.random.shuffle(plan)
        for kind in plan:
            for _ in range(20):
                if len(program) >= rows:
                    return program
                gap = self.gap_in(program)
                try:
                    if kind == "join":
                        program = self.with_join(program)
                    else:
                        program = program.put(gap, self.plain_row(kind, program, gap))
                    break
                except MoveError:
                    pass
        return program

    def near_pair(self, rows=16):
        """Two programs of which one has some rows exchanged with their neighbours, often two checks."""
        one = self.dense(rows - 1)
        checks = [address for address in one.addresses() if one.row_at(address)[0] == "check"]
        if not checks or self.random.random() < 0.4:
            return one, self.near(one, self.random.choice((1, 3, 6)))
        address = self.random.choice(checks)
        made = [name for name in one.in_sight(address) if name not in one.inputs]
        row = ("check", self.random.choice(made))
        return one.put(address, row), one.put(address[:-1] + (address[-1] + 1,), row)

    def pair(self, rows=16):
        """Two programs with the same skeleton, of which one does some rows in other places, often with a lag."""
        one = self.dense(rows - 3, 3, 1, 2)
        other = one if self.random.random() < 0.5 else self.near(one, 2)
        for _ in range(self.random.choice((1, 1, 2))):
            places = [
                [address for address in program.addresses() if program.row_at(address)[0] in ("if", "loop")]
                for program in (one, other)
            ]
            if not places[0] or places[0] != places[1]:
                break
            try:
                one, other = self.parted_at(one, other, self.random.choice(places[0]))
            except MoveError:
                pass
        return (one, other) if self.random.random() < 0.5 else (other, one)

    def parted_at(self, one, other, address):
        """Puts a row into both lists of an if or around the body of a loop in one, and elsewhere in other."""
        seen = [name for name in one.in_sight(address) if name in other.in_sight(address)]
        made = [name for name in seen if name not in one.inputs]
        if made and self.random.random() < 0.3:
            row = ("check", self.random.choice(made))
        else:
            many = self.random.choice((0, 1, 1))
            names = [self.random.choice(made * 2 + seen) for _ in range(many)]
            row = ("write", self.random.choice(self.channels), names)
        behind = address[:-1] + (address[-1] + 1,)
        ends = [length_without_leave(part) for part in one.row_at(address)[1:3]]
        if one.row_at(address)[0] == "if":
            for side in (0, 1):
                one = one.put(address + (side, self.random.choice((0, ends[side]))), row)
            return one, other.put(self.random.choice((address, behind)), row)
        one = one.put(address + (1, ends[1]), row).put(address, row)
        return one, other.put(behind, row).put(address + (1, 0), row)
