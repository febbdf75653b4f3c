"""Lags: how many more writes of a channel one program has done than the other."""

from movedchecks.errors import NoLags, Unlike
from movedchecks.skeletons import START, is_comparable, words_at

MOST_ROUNDS = 2


def written_channels(one, other):
    """The ascending list of the channels that a row of one of two programs writes."""
    return sorted(set([row[1] for row in one.rows_of("write") + other.rows_of("write")]))


class Ways:
    """By how much lags grow on the ways of two programs, which have the same forks."""

    def __init__(self, one, other):
        if not is_comparable(one, other):
            raise Unlike()
        self._roads = one.roads()
        self._others = other.roads()
        self.channels = written_channels(one, other)

    def behind(self, fork, word, lag):
        """The fork to which a word leads, and the lags there, in the order of the channels."""
        more, less = self._roads.written(fork, word), self._others.written(fork, word)
        grown = [
            many + more.count(channel) - less.count(channel)
            for channel, many in zip(self.channels, lag)
        ]
        return self._roads.behind(fork, word), tuple(grown)

    def beginning(self):
        """The lags at the start."""
        return tuple([0 for _ in self.channels])


def lags(one, other):
    """The dict from the forks to the dicts from the channels to their lags, None if these do not stand."""
    ways = Ways(one, other)
    known, waiting = {START: ways.beginning()}, [START]
    while len(waiting) > 0:
        fork = waiting.pop()
        if len(words_at(fork)) == 0 and known[fork] != ways.beginning():
            return None
        for word in words_at(fork):
            following, lag = ways.behind(fork, word, known[fork])
            if following not in known:
                known[following] = lag
                waiting.append(following)
            elif known[following] != lag:
                return None
    return {fork: dict(zip(ways.channels, known[fork])) for fork in sorted(known)}


def _places_behind(ways, place):
    """The list of tuples (word, place) of where words lead from a place: a tuple (fork, rounds, lags)."""
    fork, rounds, lag = place
    found = []
    for word in words_at(fork):
        gone = _rounds_behind(fork, word, rounds)
        if gone is not None:
            following, grown = ways.behind(fork, word, lag)
            found.append((word, (following, gone, grown)))
    return found


def _rounds_behind(fork, word, rounds):
    """How many rounds the loops around have gone behind a word, the innermost one last; None if too many."""
    if word == "round" and fork[0] == "first":
        return rounds + (1,)
    if word == "round":
        return rounds[:-1] + (rounds[-1] + 1,) if rounds[-1] < MOST_ROUNDS else None
    return rounds[:-1] if fork[0] == "again" else rounds


def _words_to(place, before):
    """The words on the way to a place, the beginning left out; before tells where each place comes from."""
    words = []
    while before[place] is not None:
        place, word = before[place]
        words.append(word)
    return words[:-1][::-1]


def lag_choices(one, other):
    """Whole choices, with few rounds, behind which a channel has another lag than 0; None if there are none."""
    ways = Ways(one, other)
    begun = (START, (), ways.beginning())
    before, waiting = {begun: None}, [begun]
    while len(waiting) > 0:
        found = []
        for place in waiting:
            if len(words_at(place[0])) == 0 and place[2] != ways.beginning():
                return _words_to(place, before)
            for word, there in _places_behind(ways, place):
                if there not in before:
                    before[there] = (place, word)
                    found.append(there)
        waiting = found
    return None


def greatest_lag(one, other):
    """The greatest amount of a lag at a fork."""
    table = lags(one, other)
    if table is None:
        raise NoLags()
    return max([abs(many) for row in table.values() for many in row.values()], default=0)
