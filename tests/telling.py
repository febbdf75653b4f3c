"""A second telling of things, stands and what comes behind them: by results and faces themselves, one by one.

Of the package only stretches, names in sight and lags are used, which have tests of their own.
"""

import itertools

from movedchecks.lags import lags
from movedchecks.skeletons import fork_behind, in_sight_at, stretch, words_at
from tests import model
from tests.model import Machine


def readings(tree):
    if tree[0] == "made":
        return [reading for part in tree[2] for reading in readings(part)]
    return [tree] if tree[0] in ("seen", "mark") else []


def with_indexes(tree, indexes):
    """The tree with the next ones of a list of indexes for its readings, which are taken from the list."""
    if tree[0] == "made":
        return ("made", tree[1], tuple([with_indexes(part, indexes) for part in tree[2]]))
    return ("mark", tree[1], indexes.pop(0)) if tree[0] == "seen" else tree


def in_order(faces):
    """Whether the marks of each channel are numbered in the order in which they first stand."""
    many = {}
    for _, channel, index in [mark for face in faces for mark in readings(face)]:
        if index > many.get(channel, 0):
            return False
        many[channel] = max(many.get(channel, 0), index + 1)
    return True


def faces_together(trees):
    """Tries all numberings of all readings."""
    many = sum(len(readings(tree)) for tree in trees)
    found = set()
    for indexes in itertools.product(range(max(many, 1)), repeat=many):
        left = list(indexes)
        faces = tuple([with_indexes(tree, left) for tree in trees])
        if in_order(faces):
            found.add(faces)
    return sorted(found)


def faces_of(thing):
    return thing[3:] if thing[0] == "write" else thing[1:]


def standing(face):
    return [face] + [inner for part in (face[2] if face[0] == "made" else ()) for inner in standing(part)]


def parts_of(thing):
    return {part for face in faces_of(thing) for part in standing(face)}


def marks_of(thing):
    return sorted(part for part in parts_of(thing) if part[0] == "mark")


def filled(face, numbers):
    if face[0] == "mark":
        return ("seen", face[1], numbers[face])
    return ("made", face[1], tuple([filled(part, numbers) for part in face[2]])) if face[0] == "made" else face


def checked_trees(program):
    rows = [row for _, row in model.all_rows(program.rows())]
    found = {tree for row in rows if row[0] == "check"
             for tree in model.trees_of(program.inputs, program.rows(), row[1])}
    return sorted(tree for tree in found if tree[0] == "made")


def written_trees(program):
    rows = [row for _, row in model.all_rows(program.rows())]
    return sorted({(row[1], place, tree) for row in rows if row[0] == "write" for place, name in enumerate(row[2])
                   for tree in model.trees_of(program.inputs, program.rows(), name)})


def things(one, other):
    checked = sorted({*checked_trees(one), *checked_trees(other)})
    written = sorted({*written_trees(one), *written_trees(other)})
    found = [("check", face) for tree in checked for face, in faces_together([tree])]
    found += [("order", *faces) for first, second in itertools.combinations(checked, 2) if first[1] != second[1]
              for faces in faces_together([first, second])]
    found += [("write", channel, place, face) for channel, place, tree in written
              for face, in faces_together([tree])]
    return sorted(found)


def moment(number, first, second):
    if number > first and number > second:
        return "later"
    return "gone" if number < first and number < second else str(number - first)


class Told:
    """One side of a run: counts, first checks of some results with the counts ahead, and writes, by the events."""

    def __init__(self, events, results):
        self.counts, self.first, self.writes = {}, None, {}
        for kind, name, worth in events:
            if kind == "write":
                self.counts[name] = self.counts.get(name, 0) + 1
                self.writes.setdefault(name, []).append(worth)
            elif kind == "check" and worth in results and self.first is None:
                self.first = (results.index(worth), dict(self.counts))


def owed(before, counts):
    """What is owed, None if more was written than before that check."""
    if any(many > before.get(channel, 0) for channel, many in counts.items()):
        return None
    missing = {channel: many - counts.get(channel, 0) for channel, many in before.items()}
    return tuple(sorted((channel, many) for channel, many in missing.items() if many > 0))


def seen_of(thing, sides, results, number, end):
    """What is seen, "done" or "broken", as point 52 tells it."""
    if thing[0] == "write":
        done = [side.counts.get(thing[1], 0) > number for side in sides]
        truths = []
        for side in sides:
            args = side.writes.get(thing[1], [])[number:number + 1]
            truths.append(any(len(row) > thing[2] and row[thing[2]] == results[0] for row in args))
        if all(done):
            return "done" if truths[0] == truths[1] else "broken"
        if any(done):
            side = done.index(True)
            missing = number + 1 - sides[1 - side].counts.get(thing[1], 0)
            return "broken" if end else (side, missing, truths[side])
        return ()
    firsts = [side.first for side in sides]
    if firsts == [None, None]:
        return ()
    if None not in firsts:
        same = {**firsts[0][1]} == {**firsts[1][1]}
        if thing[0] == "check":
            return "done" if same else "broken"
        return "broken" if same and firsts[0][0] != firsts[1][0] else "done"
    side = 0 if firsts[1] is None else 1
    missing = owed(firsts[side][1], sides[1 - side].counts)
    if missing is None or end:
        return "broken" if thing[0] == "check" else "done"
    return (side, missing) if thing[0] == "check" else (side, firsts[side][0], missing)


def holds_at(program, fork, machine, thing, numbers):
    table = {repr(filled(part, numbers)): part for part in parts_of(thing)}
    names = [name for name in in_sight_at(program, fork) if name not in program.inputs]
    return tuple([(name, table[repr(machine.held[name])]) for name in names if repr(machine.held[name]) in table])


def stand(one, other, thing, numbers, choices, number=0):
    machines = [Machine(program, choices) for program in (one, other)]
    fork = machines[0].fork
    results = [filled(face, numbers) for face in faces_of(thing)]
    sides = [Told(machine.events, results) for machine in machines]
    seen = seen_of(thing, sides, results, number, not words_at(fork))
    if seen in ("done", "broken"):
        return seen
    moments = tuple([moment(numbers[mark], *[side.counts.get(mark[1], 0) for side in sides])
                     for mark in marks_of(thing)])
    holds = [holds_at(program, fork, machine, thing, numbers) for program, machine in zip((one, other), machines)]
    return fork, moments, *holds, seen


def all_numbers(thing, most):
    """All dicts of numbers up to so many for the marks of a thing, unlike ones for unlike marks of a channel."""
    marks = marks_of(thing)
    for numbers in itertools.product(range(most + 1), repeat=len(marks)):
        if len({(mark[1], number) for mark, number in zip(marks, numbers)}) == len(marks):
            yield dict(zip(marks, numbers))


class Half:
    """One program on a stretch, told by parts: its counts, what its names hold, first check and writes."""

    def __init__(self, program, fork, word, thing, holds, numbers, counts):
        self.parts, self.numbers = parts_of(thing), numbers
        self.counts = dict(counts)
        self.held = {name: ("in", name) for name in program.inputs if ("in", name) in self.parts}
        self.held.update(dict(holds))
        self.first, self.writes = None, []
        self.thing = thing
        for deed in stretch(program, fork, word):
            self.do(deed)

    def do(self, deed):
        kind, name = deed[:2]
        if kind == "check":
            if self.first is None and self.held.get(name) in faces_of(self.thing) and self.thing[0] != "write":
                self.first = (faces_of(self.thing).index(self.held[name]), dict(self.counts))
        elif kind == "write":
            if name == self.thing[1]:
                worth = [self.held.get(arg) for arg in deed[2]]
                place = self.thing[2]
                self.writes.append((self.counts[name], len(worth) > place and worth[place] == self.thing[3]))
            self.counts[name] += 1
        else:
            part = None
            if kind == "make":
                part = ("made", deed[2], tuple([self.held.get(arg) for arg in deed[3]]))
            elif kind == "join":
                part = self.held.get(deed[2])
            else:
                for mark, number in self.numbers.items():
                    if mark[1] == deed[2] and number == self.counts.get(mark[1], 0):
                        part = mark
            self.held.pop(name, None)
            if part in self.parts:
                self.held[name] = part

    def holds_at(self, program, fork):
        names = [name for name in in_sight_at(program, fork) if name not in program.inputs]
        return tuple([(name, self.held[name]) for name in names if name in self.held])


def seen_behind(thing, halves, seen, ahead, end):
    """All that can be seen behind the stretches, "done" and "broken" too; ahead are both counts at the fork."""
    counts = [half.counts for half in halves]
    if thing[0] == "write":
        mine = [count.get(thing[1], 0) for count in counts]
        truths = [dict(half.writes) for half in halves]
        if seen:
            side, missing, truth = seen
            other = 1 - side
            done = ahead[other].get(thing[1], 0) + missing - 1
            if done in truths[other]:
                return ["done" if truths[other][done] == truth else "broken"]
            left = missing - len(halves[other].writes)
            return ["broken" if end else (side, left, truth)]
        found = [()]
        begun = max(count.get(thing[1], 0) for count in ahead)
        for number in sorted({*truths[0], *truths[1]}):
            if number >= begun:
                if number in truths[0] and number in truths[1]:
                    found.append("done" if truths[0][number] == truths[1][number] else "broken")
                else:
                    side = 0 if number in truths[0] else 1
                    found.append("broken" if end else (side, number + 1 - mine[1 - side], truths[side][number]))
        return found
    if not seen:
        firsts = [half.first for half in halves]
        if None in firsts and firsts != [None, None]:
            side = 0 if firsts[1] is None else 1
            return going_on(thing, side, firsts[side][0], dict(firsts[side][1]), None, counts[1 - side], end)
        if firsts == [None, None]:
            return [()]
        same = firsts[0][1] == firsts[1][1]
        if thing[0] == "check":
            return ["done" if same else "broken"]
        return ["broken" if same and firsts[0][0] != firsts[1][0] else "done"]
    side = seen[0]
    index = seen[1] if thing[0] == "order" else 0
    wanted = {channel: many + dict(seen[-1]).get(channel, 0) for channel, many in ahead[1 - side].items()}
    return going_on(thing, side, index, wanted, halves[1 - side].first, counts[1 - side], end)


def going_on(thing, side, index, wanted, first, counts, end):
    """What is seen when this side has checked, with the counts that are wanted of the other one."""
    if first is not None:
        if thing[0] == "check":
            return ["done" if first[1] == wanted else "broken"]
        return ["broken" if first[1] == wanted and first[0] != index else "done"]
    missing = owed(wanted, counts)
    if missing is None or end:
        return ["broken" if thing[0] == "check" else "done"]
    return [(side, missing) if thing[0] == "check" else (side, index, missing)]


def behind(one, other, thing, stand, word, table=None):
    """What comes behind a stand, with all numbers for all marks that are later."""
    fork, moments, holds, others, seen = stand
    lag = (table or lags(one, other))[fork]
    ahead = [{channel: 0 for channel in lag}, {channel: -many for channel, many in lag.items()}]
    to = fork_behind(one, fork, word)
    marks = marks_of(thing)
    plain = [Half(program, fork, word, thing, (), {}, counts) for program, counts in zip((one, other), ahead)]
    numberings = []
    for mark, told in zip(marks, moments):
        numbers = [None] if told in ("gone", "later") else [int(told)]
        if told == "later":
            most = max(half.counts.get(mark[1], 0) for half in plain)
            numbers += [k for k in range(-50, most + 1) if k > 0 and k > -lag.get(mark[1], 0)]
        numberings.append(numbers)
    found, truth = set(), False
    for numbers in itertools.product(*numberings):
        given = {mark: number for mark, number in zip(marks, numbers) if number is not None}
        if len({(mark[1], number) for mark, number in given.items()}) < len(given):
            continue
        halves = [Half(program, fork, word, thing, held, given, counts)
                  for program, held, counts in zip((one, other), (holds, others), ahead)]
        new = tuple([
            told if mark not in given else moment(given[mark], *[half.counts.get(mark[1], 0) for half in halves])
            for mark, told in zip(marks, moments)
        ])
        held = [half.holds_at(program, to) for half, program in zip(halves, (one, other))]
        for after in seen_behind(thing, halves, seen, ahead, not words_at(to)):
            truth = truth or after == "broken"
            if after not in ("done", "broken"):
                found.add((to, new, *held, after))
    return sorted(found), truth


def beginning(thing):
    found = []
    marks = marks_of(thing)
    for moments in itertools.product(("0", "later"), repeat=len(marks)):
        if all(sum(told == "0" and mark[1] == channel for mark, told in zip(marks, moments)) < 2
               for _, channel, _ in marks):
            found.append((("start", ()), moments, (), (), ()))
    return sorted(found)


def followed(one, other, thing, most=20000):
    """A plain walk: all stands, and the steps (fork, word) by which the thing breaks."""
    found, waiting, breaks = [], beginning(thing), []
    table = lags(one, other)
    while waiting:
        now = waiting.pop()
        if now in found:
            continue
        found.append(now)
        assert len(found) <= most
        for word in words_at(now[0]):
            new, truth = behind(one, other, thing, now, word, table)
            waiting += new
            if truth:
                breaks.append((now, word))
    return sorted(found), breaks


def breaks_along(one, other, thing, choices, most):
    """Whether whole choices break a thing for some numbers up to so many, by what both runs show all in all."""
    events = [Machine(program, choices).events for program in (one, other)]
    for numbers in all_numbers(thing, most):
        results = [filled(face, numbers) for face in faces_of(thing)]
        sides = [Told(told, results) for told in events]
        if thing[0] == "write":
            rows = [side.writes.get(thing[1], []) for side in sides]
            truths = [[len(row) > thing[2] and row[thing[2]] == results[0] for row in part] for part in rows]
            if truths[0] != truths[1]:
                return True
        elif seen_of(thing, sides, results, 0, True) == "broken":
            return True
    return False


def some_things(chance, one, other, most=5):
    """A few of the things that are followed, by chance."""
    found = things(one, other)
    return chance.sample(found, min(most, len(found)))


def some_owed(chance, channels):
    return tuple([(channel, chance.randint(1, 2)) for channel in channels if chance.random() < 0.6])


def some_seen(chance, thing, channels):
    if chance.random() < 0.4:
        return ()
    side = chance.randint(0, 1)
    if thing[0] == "check":
        return (side, some_owed(chance, channels))
    if thing[0] == "order":
        return (side, chance.randint(0, 1), some_owed(chance, channels))
    return (side, chance.randint(1, 3), chance.random() < 0.5)


def some_moments(chance, thing, lag):
    """Moments that a lag lets marks have, not the same number for two marks of a channel."""
    found = []
    for mark in marks_of(thing):
        behind = -lag.get(mark[1], 0)
        told = [str(number) for number in range(min(0, behind), max(0, behind) + 1)]
        taken = [moment for elder, moment in zip(marks_of(thing), found) if elder[1] == mark[1]]
        found.append(chance.choice([moment for moment in told if moment not in taken] + ["later", "gone"]))
    return tuple(found)


def some_stand(chance, one, other, thing, table):
    """A stand by its form, by chance; table are the lags."""
    fork = chance.choice(sorted(table))
    parts, holds = sorted(parts_of(thing)), []
    for program in (one, other):
        names = [name for name in in_sight_at(program, fork) if name not in program.inputs]
        holds.append(tuple([(name, chance.choice(parts)) for name in names if chance.random() < 0.7]))
    seen = some_seen(chance, thing, sorted(table[fork]))
    return fork, some_moments(chance, thing, table[fork]), *holds, seen
