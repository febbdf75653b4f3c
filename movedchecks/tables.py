"""Tables: closed lists of stands that show that two programs are alike."""

from movedchecks.broken import break_in
from movedchecks.errors import Parted
from movedchecks.followed import Followed
from movedchecks.forms import Forms
from movedchecks.lags import lag_choices, lags
from movedchecks.skeletons import words_at
from movedchecks.stands import DONE, things
from movedchecks.steps import Both, Steps


def table(one, other, *, most=2000):
    """A table of two programs that are alike."""
    told = lags(one, other)
    if told is None:
        raise Parted(lag_choices(one, other), [])
    both, rows = Both(one, other), []
    for thing in things(one, other):
        followed = Followed(both, thing, most)
        parting = break_in(both, thing, followed)
        if parting is not None:
            raise Parted(parting[0], parting[1])
        rows.append((thing, followed.stands()))
    return told, rows


def _is_equal(value, told):
    """Whether any value is just what is told, of tuples, strings and integers; True is not taken for 1."""
    return repr(value) == repr(told)


def _are_lags_at(value, told):
    """Whether any value is equal to a dict from channels to lags."""
    if not isinstance(value, dict) or len(value) != len(told):
        return False
    return all([channel in told and _is_equal(value[channel], told[channel]) for channel in value])


def is_lags(one, other, value):
    """Whether any value is equal to the dict of the lags of two programs."""
    told = lags(one, other)
    if told is None or not isinstance(value, dict) or len(value) != len(told):
        return False
    rows = {repr(fork): told[fork] for fork in told}
    if not all([repr(fork) in rows for fork in value]):
        return False
    return all([_are_lags_at(value[fork], rows[repr(fork)]) for fork in value])


def _is_closed(steps, stands):
    """Whether a list of stands has all that come from the beginning and behind its own, and none can be broken."""
    told = [steps.known(stand) for stand in stands]
    known = {stand: True for stand in told}
    if len(known) < len(stands):
        return False
    following = steps.beginning()
    for stand in known:
        for word in words_at(stand[0]):
            following.extend([outcome for outcome, _ in steps.outcomes(stand, word) if outcome != DONE])
    # BROKEN is no stand.
    return all([outcome in known for outcome in following])


def _is_row(both, thing, value):
    """Whether any value is the row of a thing in a table."""
    if not isinstance(value, tuple) or len(value) != 2 or not _is_equal(value[0], thing):
        return False
    if not isinstance(value[1], list):
        return False
    forms = Forms(both, thing)
    if not all([forms.has(stand) for stand in value[1]]):
        return False
    return _is_closed(Steps(both, thing), value[1])


def is_table(one, other, value):
    """Whether any value is a table of two programs."""
    if lags(one, other) is None:
        return False
    followed = things(one, other)
    if not isinstance(value, tuple) or len(value) != 2 or not is_lags(one, other, value[0]):
        return False
    rows, both = value[1], Both(one, other)
    if not isinstance(rows, list) or len(rows) != len(followed):
        return False
    return all([_is_row(both, thing, row) for thing, row in zip(followed, rows)])
