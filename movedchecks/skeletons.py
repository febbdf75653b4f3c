"""How ifs, loops and leaves stand in one another, and the ways between them."""

from movedchecks.errors import NoFork, NoWord
from movedchecks.kinds import is_integer

START = ("start", ())
END = ("end", ())
FIRST_FORKS = {"if": "if", "loop": "first", "leave": "leave"}
WORDS_AT = {"start": ("",), "if": ("no", "yes"), "first": ("out", "round"), "again": ("out", "round")}


def _parts_of(rows):
    parts = []
    for row in rows:
        if row[0] == "leave":
            parts.append(("leave",))
        elif row[0] in FIRST_FORKS:
            parts.append((row[0], _parts_of(row[1]), _parts_of(row[2])))
    return tuple(parts)


def _paths_of(table):
    """The dict from the addresses of ifs, loops and leaves to their paths."""
    paths, passed = {}, {}
    for address in table:
        if table[address][0] in FIRST_FORKS:
            road, owner = address[:-1], address[:-2]
            index = passed.get(road, 0)
            passed[road] = index + 1
            ahead = paths[owner] + road[-1:] if len(road) > 0 else ()
            paths[address] = ahead + (index,)
    return paths


def _behind(address):
    return address[:-1] + (address[-1] + 1,)


class Roads:
    """All ways of a program from a fork to the next one, of the forks that some choices come to.

    It is made of the rows, and of the dict from the ascending addresses to the rows at them.
    """

    def __init__(self, rows, table):
        self._shape = _parts_of(rows)
        self._lists = {(): rows}
        self._rows = table
        for address in table:
            row = table[address]
            if row[0] in ("if", "loop"):
                self._lists[address + (0,)] = row[1]
                self._lists[address + (1,)] = row[2]
        self._paths = _paths_of(table)
        self._addresses = {self._paths[address]: address for address in self._paths}
        self._ways = {}
        self._follow()

    def shape(self):
        """The skeleton."""
        return self._shape

    def forks(self):
        """The ascending list of the forks that some choices come to."""
        return sorted(self._ways)

    def has(self, fork):
        """Whether any value is one of these forks."""
        return _is_fork_by_form(fork) and fork in self._ways

    def first_fork(self):
        """The fork behind the beginning, the first one at which a word can be chosen."""
        return self.behind(START, "")

    def behind(self, fork, word):
        """The fork to which a word leads."""
        return self._ways[fork][word][0]

    def done(self, fork, word):
        """The tuple of tuples (address, deed) of what is done on this way; a deed is as in stretch."""
        return self._ways[fork][word][1]

    def written(self, fork, word):
        """The tuple of the channels that are written on this way, each as often as it is."""
        return self._ways[fork][word][2]

    def place_of(self, fork):
        """The address of the row of a fork, None for the start and the end."""
        return self._addresses.get(fork[1], None)

    def _follow(self):
        waiting = [START]
        while len(waiting) > 0:
            fork = waiting.pop()
            if fork not in self._ways:
                self._ways[fork] = {word: self._way_from(self._gap_behind(fork, word)) for word in words_at(fork)}
                waiting.extend([way[0] for way in list(self._ways[fork].values())])

    def _gap_behind(self, fork, word):
        """The gap at which what is done behind a word begins."""
        if fork == START:
            return (0,)
        address = self._addresses[fork[1]]
        if word == "out":
            return _behind(address)
        # The list 1 is the body, ahead of whose first round once is done; of an if it is no.
        return address + (int(fork[0] == "again" or word == "no"), 0)

    def _way_from(self, gap):
        """The tuple of the next fork behind a gap, of what is done on the way, and of the channels written there."""
        deeds, fork = [], None
        while fork is None:
            rows = self._lists[gap[:-1]]
            if gap[-1] == len(rows):
                fork, gap = self._out_of_list(gap[:-1], deeds)
            elif rows[gap[-1]][0] in FIRST_FORKS:
                fork = (FIRST_FORKS[rows[gap[-1]][0]], self._paths[gap])
            else:
                deeds.append((gap, rows[gap[-1]]))
                gap = _behind(gap)
        return fork, tuple(deeds), tuple([deed[1] for _, deed in deeds if deed[0] == "write"])

    def _out_of_list(self, road, deeds):
        """The tuple of the fork at the end of a list, None if there is none, and of the gap that comes then."""
        if len(road) == 0:
            return END, road
        address, number = road[:-1], road[-1]
        row = self._rows[address]
        if row[0] == "loop":
            return (None, address + (1, 0)) if number == 0 else (("again", self._paths[address]), road)
        deeds.extend([(address, ("join", join[0], join[1 + number])) for join in row[3]])
        return None, _behind(address)


def _is_fork_by_form(thing):
    if not isinstance(thing, tuple) or len(thing) != 2 or not isinstance(thing[0], str):
        return False
    return isinstance(thing[1], tuple) and all([is_integer(part) for part in thing[1]])


def may_choose(fork, word):
    """Whether any value is a word that may be chosen at a fork."""
    return word in WORDS_AT.get(fork[0], ())


def _roads_with(program, fork):
    roads = program.roads()
    if not roads.has(fork):
        raise NoFork(fork)
    return roads


def _roads_along(program, fork, word):
    roads = _roads_with(program, fork)
    if not may_choose(fork, word):
        raise NoWord(word)
    return roads


def skeleton(program):
    """The skeleton of a program."""
    return program.roads().shape()


def is_comparable(one, other):
    """Whether two programs have the same skeleton and the same inputs."""
    return one.inputs == other.inputs and skeleton(one) == skeleton(other)


def forks(program):
    """The ascending list of the forks that some choices come to."""
    return program.roads().forks()


def words_at(fork):
    """The ascending list of the words that may be chosen at a fork."""
    return list(WORDS_AT.get(fork[0], ()))


def fork_behind(program, fork, word):
    """The fork to which a word leads from a fork."""
    return _roads_along(program, fork, word).behind(fork, word)


def stretch(program, fork, word):
    """The list of what is done between a fork and the one to which a word leads."""
    return [deed for _, deed in _roads_along(program, fork, word).done(fork, word)]


def in_sight_at(program, fork):
    """The ascending list of the names in sight at a fork, inputs too."""
    address = _roads_with(program, fork).place_of(fork)
    if fork == START:
        return list(program.inputs)
    if fork == END:
        return program.in_sight((len(program.rows()),))
    if fork[0] == "again":
        return program.in_sight(address + (0, len(program.row_at(address)[1])))
    return program.in_sight(address)


def row_at_fork(program, fork):
    """The address of the row of a fork, None for the start and the end."""
    return _roads_with(program, fork).place_of(fork)


def is_whole(program, thing):
    """Whether thing is a list or a tuple that is whole choices of a program."""
    if not isinstance(thing, (list, tuple)):
        return False
    roads = program.roads()
    fork = roads.first_fork()
    for word in thing:
        if not may_choose(fork, word):
            return False
        fork = roads.behind(fork, word)
    return len(words_at(fork)) == 0


def whole_choices(program, most):
    """All whole choices of at most so many words: those with fewer words first, then the lesser ones."""
    roads = program.roads()
    begun = [([], roads.first_fork())]
    for _ in range(most + 1):
        longer = []
        for choices, fork in begun:
            if len(words_at(fork)) == 0:
                yield choices
            for word in words_at(fork):
                longer.append((choices + [word], roads.behind(fork, word)))
        begun = longer
