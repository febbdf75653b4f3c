"""Compilers: rules by which rows go, and the programs that come by any number of steps."""

from movedchecks.alike import parting
from movedchecks.errors import BadStep, MoveError, TooMany
from movedchecks.passes import exchanged, has_twin, list_of_first, out_of_both, out_of_list
from movedchecks.rows import PLAIN_KINDS

# How many kinds each rule names, and of which list the row that goes is the first one.
KINDS_IN = {"pass": 2, "rise": 1, "both": 1, "once": 1, "ahead": 1, "spare": 0}
LISTS = {"rise": "if", "both": "if", "once": "body", "ahead": "once"}


def _is_rule(thing):
    if not isinstance(thing, tuple) or len(thing) == 0 or not isinstance(thing[0], str):
        return False
    if len(thing) != 1 + KINDS_IN.get(thing[0], len(thing)):
        return False
    return all([isinstance(kind, str) and kind in PLAIN_KINDS for kind in thing[1:]])


def _passed(program, rule, address):
    behind = address[:-1] + (address[-1] + 1,)
    if not program.has_row(behind) or program.row_at(behind)[0] != rule[2]:
        return None
    return exchanged(program, address)


def _is_checked_ahead(program, address):
    """Whether a row equal to this check stands ahead of it in its list, or in a list around it."""
    row = program.row_at(address)
    for end in range(len(address), 0, -2):
        road, index = address[:end - 1], address[end - 1]
        if any([program.row_at(road + (ahead,)) == row for ahead in range(index)]):
            return True
    return False


def _by_rule(program, rule, address):
    """The Program that comes if the row at an address goes by a rule, None if the rule does not mean this row."""
    kind = program.row_at(address)[0]
    if rule[0] == "spare":
        return program.out(address) if kind == "check" and _is_checked_ahead(program, address) else None
    if kind != rule[1]:
        return None
    if rule[0] == "pass":
        return _passed(program, rule, address)
    if list_of_first(program, address) != LISTS[rule[0]]:
        return None
    if rule[0] != "both":
        return out_of_list(program, address)
    return out_of_both(program, address) if address[-2] == 0 and has_twin(program, address) else None


def _behind(program, rule, address):
    """The Program behind a step, None if this is no step."""
    try:
        found = _by_rule(program, rule, address)
    except MoveError:
        return None
    return None if found == program else found


def _all_behind(program, compiler):
    """The list of tuples (step, Program) of all steps, the steps ascending."""
    candidates = [(rule, address) for rule in sorted(compiler) for address in program.addresses()]
    found = [(step, _behind(program, step[0], step[1])) for step in candidates]
    return [pair for pair in found if pair[1] is not None]


def steps(program, compiler):
    """The ascending list of all steps of a compiler from a program."""
    return [step for step, _ in _all_behind(program, compiler)]


def stepped(program, step):
    """The Program behind a step."""
    if not isinstance(step, tuple) or len(step) != 2 or not _is_rule(step[0]) or not program.has_row(step[1]):
        raise BadStep(step)
    found = _behind(program, step[0], step[1])
    if found is None:
        raise BadStep(step)
    return found


class Outcomes:
    """The different programs that come by steps, found by how many steps lead to them."""

    def __init__(self, program, compiler, most):
        self._compiler = compiler
        self._most = most
        self._known = {}
        self._programs = []
        # For each program the index of the one that it comes from, and the step; None for the first one.
        self._before = []
        self._note(program, None)
        index = 0
        while index < len(self._programs):
            self._go_on(index)
            index += 1

    def _note(self, program, before):
        # Rows nest too deep for keys of dicts.
        key = repr(program.rows())
        if key in self._known:
            return
        if len(self._programs) == self._most:
            raise TooMany(self._most)
        self._known[key] = True
        self._programs.append(program)
        self._before.append(before)

    def _go_on(self, index):
        for step, following in _all_behind(self._programs[index], self._compiler):
            self._note(following, (index, step))

    def found(self):
        """The list of the programs, the first one first."""
        return list(self._programs)

    def steps_to(self, index):
        """The list of the steps that lead to the program with an index, as few as possible."""
        found = []
        while self._before[index] is not None:
            index, step = self._before[index]
            found.append(step)
        return found[::-1]


def outcomes(program, compiler, *, texts=40):
    """The list of the different Programs that come by any number of steps, those that need fewer steps first."""
    return Outcomes(program, compiler, texts).found()


def unsound(program, compiler, *, texts=40, most=2000):
    """As few steps as possible to a program that is parted from the first one, and a parting; None if all are alike."""
    reached = Outcomes(program, compiler, texts)
    for index, outcome in enumerate(reached.found()):
        told = parting(program, outcome, most=most)
        if told is not None:
            return reached.steps_to(index), told[0], told[1]
    return None


def is_sound(program, compiler, *, texts=40, most=2000):
    """Whether all programs that come by steps are alike to the program."""
    return unsound(program, compiler, texts=texts, most=most) is None
