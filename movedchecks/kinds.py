"""Of which kind a value is."""

LETTERS = "abcdefghijklmnopqrstuvwxyz"
LONGEST = 8
WORDS = ("yes", "no", "round", "out")


def is_integer(thing):
    """Whether thing is an integer; True and False are none."""
    return isinstance(thing, int) and not isinstance(thing, bool)


def is_name(thing):
    """Whether thing is a name: a string of one to eight lower-case letters."""
    return isinstance(thing, str) and 1 <= len(thing) <= LONGEST and all([sign in LETTERS for sign in thing])


def is_address(thing):
    """Whether thing is an address by its form: a tuple of an odd number of integers from 0 on."""
    if not isinstance(thing, tuple) or len(thing) % 2 == 0:
        return False
    return all([is_integer(part) and part >= 0 for part in thing])


def are_names(thing, most):
    """Whether thing is a list or a tuple of at most so many names, the same ones perhaps."""
    return isinstance(thing, (list, tuple)) and len(thing) <= most and all([is_name(name) for name in thing])


def are_choices(thing):
    """Whether thing is a list or a tuple of words that can be chosen somewhere."""
    return isinstance(thing, (list, tuple)) and all([isinstance(word, str) and word in WORDS for word in thing])
