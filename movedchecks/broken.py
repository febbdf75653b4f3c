"""Things that break: the choices behind which two programs do not show the same."""

from movedchecks.followed import Followed
from movedchecks.marks import filled, marks
from movedchecks.skeletons import words_at
from movedchecks.stands import faces_of, things
from movedchecks.steps import Both


def _words_to_ends(both):
    """The dict from the forks to the fewest words that lead from there to an end."""
    found = {fork: [] for fork in both.forks() if len(words_at(fork)) == 0}
    while len(found) < len(both.forks()):
        farther = [fork for fork in both.forks() if fork not in found]
        steps = [(fork, word, both.way(fork, word).to) for fork in farther for word in words_at(fork)]
        found.update({fork: [word] + found[to] for fork, word, to in steps if to in found})
    return found


def _numbers_along(both, thing, road):
    """The dict from the marks of a thing to the numbers that they have on a road, as Followed tells it."""
    written = {channel: 0 for channel in both.channels}
    found = {}
    for fork, word, numbers in road:
        for mark, number in zip(marks(faces_of(thing)), numbers):
            # Numbers are told as if one had written nothing ahead of this step.
            if number is not None and mark not in found:
                found[mark] = written.get(mark[1], 0) + number
        behind = both.way(fork, word).behind[0]
        written = {channel: written[channel] + behind[channel] for channel in behind}
    return found


def _choices_along(both, road):
    """Whole choices that begin with a road, with as few words as possible."""
    fork, word, _ = road[-1]
    return [word for _, word, _ in road[1:]] + _words_to_ends(both)[both.way(fork, word).to]


def break_in(both, thing, followed):
    """As breaking, of what is followed of a thing already."""
    roads = followed.breaks()
    if len(roads) == 0:
        return None
    ways = [_choices_along(both, road) for road in roads]
    least = min([len(choices) for choices in ways])
    choices, road = [pair for pair in zip(ways, roads) if len(pair[0]) == least][0]
    if thing[0] == "write":
        return choices, []
    numbers = _numbers_along(both, thing, road)
    return choices, sorted([filled(face, numbers) for face in faces_of(thing)])


def first_break(both, most):
    """The tuple (thing, choices, bad) of the first thing that breaks, None if there is none."""
    for thing in things(*both.programs):
        told = break_in(both, thing, Followed(both, thing, most))
        if told is not None:
            return (thing, *told)
    return None


def breaking(one, other, thing, *, most=2000):
    """Whole choices, as few as possible, and bad results by which a thing breaks; None if it does not."""
    both = Both(one, other)
    return break_in(both, thing, Followed(both, thing, most))


def first_broken(one, other, *, most=2000):
    """The first thing that breaks, None if there is none."""
    told = first_break(Both(one, other), most)
    return None if told is None else told[0]
