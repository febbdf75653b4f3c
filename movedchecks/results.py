"""Results by their form, and what stands in them."""

from movedchecks.kinds import is_integer, is_name

MOST_PARTS = 3


def _has_form(thing):
    """Whether thing is a result by its form, whatever the parts of a made one are."""
    if not isinstance(thing, tuple) or len(thing) == 0:
        return False
    if thing[0] == "in":
        return len(thing) == 2 and is_name(thing[1])
    if thing[0] == "seen":
        return len(thing) == 3 and is_name(thing[1]) and is_integer(thing[2]) and thing[2] >= 0
    if thing[0] != "made" or len(thing) != 3 or not is_name(thing[1]):
        return False
    return isinstance(thing[2], tuple) and len(thing[2]) <= MOST_PARTS


def is_result(thing):
    """Whether thing is a result by its form, of whatever size."""
    waiting = [thing]
    while len(waiting) > 0:
        part = waiting.pop()
        if not _has_form(part):
            return False
        if part[0] == "made":
            waiting.extend(part[2])
    return True


def are_made(thing):
    """Whether thing is a list or a tuple of made results, the same ones perhaps."""
    return isinstance(thing, (list, tuple)) and all([is_result(part) and part[0] == "made" for part in thing])


def are_bad(thing):
    """Whether thing is a list or a tuple of different made results."""
    return are_made(thing) and len(different(thing)) == len(thing)


def different(results):
    """The ascending list of results, each once."""
    found = []
    for result in sorted(results):
        if len(found) == 0 or found[-1] != result:
            found.append(result)
    return found


def word_of(result):
    """The word of a made result, None of another one."""
    return result[1] if result[0] == "made" else None


def within(result):
    """The ascending list of the different results that stand in a result, itself too."""
    found, waiting = [], [result]
    while len(waiting) > 0:
        part = waiting.pop()
        found.append(part)
        if part[0] == "made":
            waiting.extend(part[2])
    return different(found)


def later(result, numbers):
    """The result in which each reading has a number that is greater by that of its channel."""
    if result[0] == "seen":
        return ("seen", result[1], result[2] + numbers.get(result[1], 0))
    if result[0] == "made":
        return ("made", result[1], tuple([later(part, numbers) for part in result[2]]))
    return result
