"""Rows by their form: what they make and use, and the lists of rows in them."""

from movedchecks.kinds import are_names, is_name

MOST_ARGS = 3
PLAIN_KINDS = ("make", "read", "check", "write")


def _are_joins(thing):
    if not isinstance(thing, (list, tuple)):
        return False
    for join in thing:
        if not isinstance(join, tuple) or len(join) != 3 or not are_names(join, 3):
            return False
    return True


def is_row(thing):
    """Whether thing is a row by its form, whatever is in sight."""
    if not isinstance(thing, tuple) or len(thing) == 0:
        return False
    kind, many = thing[0], len(thing)
    if kind == "make":
        return many == 4 and is_name(thing[1]) and is_name(thing[2]) and are_names(thing[3], MOST_ARGS)
    if kind == "check":
        return many == 2 and is_name(thing[1])
    if kind == "read":
        return many == 3 and is_name(thing[1]) and is_name(thing[2])
    if kind == "write":
        return many == 3 and is_name(thing[1]) and are_names(thing[2], MOST_ARGS)
    if kind == "if":
        return many == 4 and are_rows(thing[1]) and are_rows(thing[2]) and _are_joins(thing[3])
    if kind == "loop":
        return many == 3 and are_rows(thing[1]) and are_rows(thing[2])
    return kind == "leave" and many == 1


def are_rows(thing):
    """Whether thing is a list or a tuple of rows by their form."""
    if not isinstance(thing, (list, tuple)):
        return False
    for row in thing:
        if not is_row(row):
            return False
    return True


def _all_frozen(rows):
    return tuple([frozen(row) for row in rows])


def frozen(row):
    """The row with tuples for lists."""
    kind = row[0]
    if kind == "make":
        return ("make", row[1], row[2], tuple(row[3]))
    if kind == "write":
        return ("write", row[1], tuple(row[2]))
    if kind == "if":
        return ("if", _all_frozen(row[1]), _all_frozen(row[2]), tuple(row[3]))
    if kind == "loop":
        return ("loop", _all_frozen(row[1]), _all_frozen(row[2]))
    return tuple(row)


def held_lists(row):
    """The tuple of the lists 0 and 1 of a row as they stand in it, an empty one if it has none."""
    return row[1:3] if row[0] in ("if", "loop") else ()


def is_plain(row):
    """Whether a row is a make, a read, a check or a write."""
    return row[0] in PLAIN_KINDS


def lists_of(row):
    """The list of the lists 0 and 1 of a row, no list if it has none."""
    return [[frozen(inner) for inner in part] for part in held_lists(row)]


def with_lists(row, lists):
    """The row with these lists in the place of its own."""
    if row[0] not in ("if", "loop"):
        return frozen(row)
    return frozen((row[0], lists[0], lists[1]) + row[3:])


def makes(row):
    """The list of the names that a row makes; those of the rows in its lists are left out."""
    if row[0] in ("make", "read"):
        return [row[1]]
    if row[0] == "if":
        return [join[0] for join in row[3]]
    return []


def uses(row):
    """The list of the names that a row names without making them, each as often as it stands there."""
    if row[0] == "make":
        return list(row[3])
    if row[0] == "check":
        return [row[1]]
    if row[0] == "write":
        return list(row[2])
    if row[0] == "if":
        return [name for join in row[3] for name in join[1:]]
    return []


def _new_names(elder, names):
    return tuple([names.get(name, name) for name in elder])


def renamed(row, names):
    """The row with the names that the dict has for its own; what the dict lacks stays."""
    kind = row[0]
    if kind == "make":
        return ("make", names.get(row[1], row[1]), row[2], _new_names(row[3], names))
    if kind == "read":
        return ("read", names.get(row[1], row[1]), row[2])
    if kind == "check":
        return ("check", names.get(row[1], row[1]))
    if kind == "write":
        return ("write", row[1], _new_names(row[2], names))
    if kind == "leave":
        return ("leave",)
    lists = [tuple([renamed(inner, names) for inner in part]) for part in row[1:3]]
    joins = [tuple([_new_names(join, names) for join in part]) for part in row[3:]]
    return (kind, *lists, *joins)


def count(rows):
    """The number of rows in a list of rows, those in their lists too."""
    inner = [count(part) for row in rows for part in held_lists(row)]
    return len(rows) + sum(inner)


def depth(rows):
    """How deep lists are within one another in a list of rows: 1 if no row has lists."""
    return 1 + max([depth(part) for row in rows for part in held_lists(row)], default=0)


def rearranged(rows, gone, coming, road=()):
    """A tuple of rows in which some are left out and others come in, all at once; road leads to their list.

    gone is a dict whose keys are the addresses of the rows that are left out, coming one from gaps to the lists of
    the rows that come there; both tell addresses and gaps as they are in the rows that are given. All rows have
    tuples for lists.
    """
    found = []
    for index, row in enumerate(rows):
        here = road + (index,)
        if here in coming:
            found.extend(coming[here])
        if here in gone:
            continue
        if row[0] in ("if", "loop"):
            lists = [rearranged(row[1 + number], gone, coming, here + (number,)) for number in (0, 1)]
            found.append((row[0], *lists, *row[3:]))
        else:
            found.append(row)
    found.extend(coming.get(road + (len(rows),), ()))
    return tuple(found)
