"""Trees: what results are made of, without numbers."""

from movedchecks.results import different


def trees(program, name):
    """The ascending list of the different trees of a name of a program or of an input."""
    # Asking for its row raises the error for what is no name.
    program.row_of(name)
    return program.variants().trees(name)


def checked_trees(program):
    """The ascending list of the different made trees of checked names."""
    checked = [tree for row in program.rows_of("check") for tree in trees(program, row[1])]
    return different([tree for tree in checked if tree[0] == "made"])


def written_trees(program):
    """The ascending list of the different tuples (channel, place, tree) of the args of writes."""
    return different([
        (row[1], place, tree)
        for row in program.rows_of("write")
        for place, name in enumerate(row[2])
        for tree in trees(program, name)
    ])


def tree_of(result):
    """The tree of a result."""
    if result[0] == "made":
        return ("made", result[1], tuple([tree_of(part) for part in result[2]]))
    return result[:2]
