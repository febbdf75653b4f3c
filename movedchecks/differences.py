"""In what two programs are unlike along the same choices."""

from movedchecks.errors import Unlike
from movedchecks.playing import events, play
from movedchecks.results import different, word_of
from movedchecks.skeletons import is_comparable


def _key_of(result):
    # Results nest too deep for keys of dicts; texts do as well.
    return repr(result)


def first_checks(program, choices):
    """The list of the made results that are checked, each with how often channels were written before."""
    counts, known, found = {}, {}, []
    for event in events(program, choices):
        if event[0] == "write":
            counts[event[1]] = counts.get(event[1], 0) + 1
        elif event[0] == "check" and word_of(event[2]) is not None and _key_of(event[2]) not in known:
            known[_key_of(event[2])] = True
            found.append((event[2], tuple([(channel, counts[channel]) for channel in sorted(counts)])))
    return found


def _written(program, choices):
    return play(program, choices, [])[0]


def normal_form(program, choices):
    """The tuple of what a run writes and of its first checks, those put together that can change places."""
    lots = []
    for result, counts in first_checks(program, choices):
        if len(lots) == 0 or lots[-1][:2] != (counts, word_of(result)):
            lots.append((counts, word_of(result), []))
        lots[-1][2].append(result)
    return _written(program, choices), [(counts, word, sorted(results)) for counts, word, results in lots]


def _first_unlike(some, others):
    """The least index at which two lists are unlike, or at which one of them ends; None if they are equal."""
    for index, (part, other) in enumerate(zip(some, others)):
        if part != other:
            return index
    return None if len(some) == len(others) else min(len(some), len(others))


def _write_differences(one, other, choices):
    mine, theirs = _written(one, choices), _written(other, choices)
    found = []
    for channel in sorted(set(list(mine) + list(theirs))):
        number = _first_unlike(mine.get(channel, []), theirs.get(channel, []))
        if number is not None:
            found.append(("write", channel, number))
    return found


def _places(checks):
    """The dict from the keys of results that are checked to where their first checks stand, and their counts."""
    return {_key_of(result): (place, counts) for place, (result, counts) in enumerate(checks)}


def _check_differences(mine, theirs):
    here, there = _places(mine), _places(theirs)
    unlike = []
    for result in different([result for result, _ in mine + theirs]):
        key = _key_of(result)
        if key not in here or key not in there or here[key][1] != there[key][1]:
            unlike.append(("check", result))
    return unlike


def _order_differences(mine, theirs):
    here, there = _places(mine), _places(theirs)
    shared = []
    for result in different([result for result, _ in mine]):
        key = _key_of(result)
        if key in there:
            shared.append((result, here[key][0], there[key][0]))
    return [
        ("order", first[0], second[0])
        for index, first in enumerate(shared)
        for second in shared[index + 1:]
        if word_of(first[0]) != word_of(second[0]) and (first[1] < second[1]) != (first[2] < second[2])
    ]


def differences(one, other, choices):
    """The ascending list of what is unlike in the runs of two programs along whole choices."""
    if not is_comparable(one, other):
        raise Unlike()
    mine, theirs = first_checks(one, choices), first_checks(other, choices)
    checks = _check_differences(mine, theirs) + _order_differences(mine, theirs)
    return sorted(checks + _write_differences(one, other, choices))


def is_same(one, other, choices):
    """Whether nothing is unlike in the two runs."""
    return len(differences(one, other, choices)) == 0


def least_bad(one, other, choices):
    """The bad results, as few as possible, with which something unlike is seen; None if nothing ever is."""
    unlike = differences(one, other, choices)
    if len(unlike) == 0:
        return None
    # Unlike writes are seen with nothing bad; an unlike check only with its result, an unlike order with both.
    if unlike[-1][0] == "write":
        return []
    return list(unlike[0][1:])
