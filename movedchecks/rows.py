"""Rows by their form: what they make and use, and the lists of rows in them."""

from movedchecks.kinds import are_names, is_name

MOST_ARGS = 3
PLAIN_KINDS = ("make", "read", "check", "write")


def _is_join(thing):
    return isinstance(thing, tuple) and len(thing) == 3 and all([is_name(name) for name in thing])


def _are_joins(thing):
    return isinstance(thing, (list, tuple)) and all([_is_join(join) for join in thing])


def _has_form(kind, parts):
    """Whether what stands behind the kind of a row is as this kind asks for."""
    if kind == "make":
        return len(parts) == 3 and is_name(parts[0]) and is_name(parts[1]) and are_names(parts[2], MOST_ARGS)
    if kind == "read":
        return len(parts) == 2 and is_name(parts[0]) and is_name(parts[1])
    if kind == "check":
        return len(parts) == 1 and is_name(parts[0])
    if kind == "write":
        return len(parts) == 2 and is_name(parts[0]) and are_names(parts[1], MOST_ARGS)
    if kind == "if":
        return len(parts) == 3 and are_rows(parts[0]) and are_rows(parts[1]) and _are_joins(parts[2])
    if kind == "loop":
        return len(parts) == 2 and are_rows(parts[0]) and are_rows(parts[1])
    return kind == "leave" and len(parts) == 0


def is_row(thing):
    """Whether thing is a row by its form, whatever is in sight."""
    return isinstance(thing, tuple) and len(thing) > 0 and _has_form(thing[0], thing[1:])


def are_rows(thing):
    """Whether thing is a list or a tuple of rows by their form."""
    return isinstance(thing, (list, tuple)) and all([is_row(row) for row in thing])


def _all_frozen(rows):
    return tuple([frozen(row) for row in rows])


def frozen(row):
    """The row with tuples for lists."""
    kind = row[0]
    if kind == "make":
        return ("make", row[1], row[2], tuple(row[3]))
    if kind == "write":
        return ("write", row[1], tuple(row[2]))
    if kind == "if":
        return ("if", _all_frozen(row[1]), _all_frozen(row[2]), tuple(row[3]))
    if kind == "loop":
        return ("loop", _all_frozen(row[1]), _all_frozen(row[2]))
    return tuple(row)


def held_lists(row):
    """The tuple of the lists 0 and 1 of a row as they stand in it, an empty one if it has none."""
    return row[1:3] if row[0] in ("if", "loop") else ()


def is_plain(row):
    """Whether a row is a make, a read, a check or a write."""
    return row[0] in PLAIN_KINDS


def lists_of(row):
    """The list of the lists 0 and 1 of a row, no list if it has none."""
    return [[frozen(inner) for inner in part] for part in held_lists(row)]


def with_lists(row, lists):
    """The row with these lists in the place of its own."""
    if row[0] not in ("if", "loop"):
        return frozen(row)
    return frozen((row[0], lists[0], lists[1]) + row[3:])


def makes(row):
    """The list of the names that a row makes; those of the rows in its lists are left out."""
    if row[0] in ("make", "read"):
        return [row[1]]
    if row[0] == "if":
        return [join[0] for join in row[3]]
    return []


def uses(row):
    """The list of the names that a row names without making them, each as often as it stands there."""
    if row[0] == "make":
        return list(row[3])
    if row[0] == "check":
        return [row[1]]
    if row[0] == "write":
        return list(row[2])
    if row[0] == "if":
        return [name for join in row[3] for name in join[1:]]
    return []


def _new_names(elder, names):
    return tuple([names.get(name, name) for name in elder])


def renamed(row, names):
    """The row with the names that the dict has for its own; what the dict lacks stays."""
    kind = row[0]
    if kind == "make":
        return ("make", names.get(row[1], row[1]), row[2], _new_names(row[3], names))
    if kind == "read":
        return ("read", names.get(row[1], row[1]), row[2])
    if kind == "check":
        return ("check", names.get(row[1], row[1]))
    if kind == "write":
        return ("write", row[1], _new_names(row[2], names))
    if kind == "leave":
        return ("leave",)
    lists = [tuple([renamed(inner, names) for inner in part]) for part in row[1:3]]
    joins = [tuple([_new_names(join, names) for join in part]) for part in row[3:]]
    return (kind, *lists, *joins)


def count(rows):
    """The number of rows in a list of rows, those in their lists too."""
    inner = [count(part) for row in rows for part in held_lists(row)]
    return len(rows) + sum(inner)


def depth(rows):
    """How deep lists are within one another in a list of rows: 1 if no row has lists."""
    return 1 + max([depth(part) for row in rows for part in held_lists(row)], default=0)


def rearranged(rows, gone, coming, road=()):
    """A list of rows in which some are left out and others come in, all at once; road leads to this list.

    gone is a dict whose keys are the addresses of the rows that are left out, coming one from gaps to the lists of
    the rows that come there; both tell addresses and gaps as they are in the rows that are given.
    """
    found = []
    for index, row in enumerate(rows):
        here = road + (index,)
        found.extend(coming.get(here, ()))
        if here not in gone:
            lists = [
                rearranged(part, gone, coming, here + (number,))
                for number, part in enumerate(held_lists(row))
            ]
            found.append(with_lists(row, lists))
    found.extend(coming.get(road + (len(rows),), ()))
    return found
