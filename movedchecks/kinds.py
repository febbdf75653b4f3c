"""Of which kind a value is."""

LONGEST = 8
WORDS = ("yes", "no", "round", "out")


def is_integer(thing):
    """Whether thing is an integer; True and False are none."""
    return isinstance(thing, int) and not isinstance(thing, bool)


def is_name(thing):
    """Whether thing is a name: a string of one to eight lower-case letters."""
    if not isinstance(thing, str) or len(thing) > LONGEST:
        return False
    return thing.isascii() and thing.isalpha() and thing.islower()


def is_address(thing):
    """Whether thing is an address by its form: a tuple of an odd number of integers from 0 on."""
    if not isinstance(thing, tuple) or len(thing) % 2 == 0:
        return False
    for part in thing:
        if not is_integer(part) or part < 0:
            return False
    return True


def are_names(thing, most):
    """Whether thing is a list or a tuple of at most so many names, the same ones perhaps."""
    if not isinstance(thing, (list, tuple)) or len(thing) > most:
        return False
    for name in thing:
        if not is_name(name):
            return False
    return True


def are_choices(thing):
    """Whether thing is a list or a tuple of words that can be chosen somewhere."""
    return isinstance(thing, (list, tuple)) and all([isinstance(word, str) and word in WORDS for word in thing])
