"""The trees that names can have, one for each choice of lists of the ifs whose joins lead to them.

A long chain of ifs has more choices than can be gone through. Therefore each name has a node: a tree, or an if with
a node for either of its lists. Equal nodes are kept once, and an if whose lists give the same node is left out.
"""

from movedchecks.rows import makes, uses

MOST_TREES = 4
MOST_PARTS = 12
MOST_READINGS = 2


def size_of(tree):
    """The tuple (parts, readings) of a tree, each counted as often as it stands in it."""
    if tree[0] != "made":
        return 1, int(tree[0] == "seen")
    sizes = [size_of(part) for part in tree[2]]
    return 1 + sum([size[0] for size in sizes]), sum([size[1] for size in sizes])


def is_large(tree):
    """Whether a tree has more parts or more readings than a name may have."""
    parts, readings = size_of(tree)
    return parts > MOST_PARTS or readings > MOST_READINGS


class Variants:
    """The trees of all names of rows that use only what is in sight; rows have tuples for lists."""

    def __init__(self, inputs, rows):
        self._numbers = {}
        self._nodes = []
        self._known = {}
        self._wide = []
        self._ifs = 0
        for name in inputs:
            self._known[name] = self._leaf(("in", name), ("in", name))
        self._go_through(rows)

    def wide(self):
        """The ascending list of the names that have too many trees, or one that is too large."""
        return sorted(self._wide)

    def trees(self, name):
        """The ascending list of the different trees of a name that is not wide."""
        return self._trees_at(self._known[name])

    def _go_through(self, rows):
        for row in rows:
            if row[0] in ("if", "loop"):
                self._go_through(row[1])
                self._go_through(row[2])
            if row[0] == "if":
                self._note_joins(row)
            elif len(makes(row)) > 0:
                self._note(row[1], uses(row), row)

    def _note_joins(self, row):
        # An if gets its number behind those in its lists, so that a node stands above all that it rests on.
        self._ifs += 1
        for name, one, other in row[3]:
            self._note(name, [one, other], row)

    def _note(self, name, used, row):
        nodes = [self._known[part] for part in used]
        # Each tree of a part stands in a tree of the name: what is made of a wide name is wide, too.
        node = None if None in nodes else self._node_of(row, nodes)
        if node is not None and self._is_wide(node):
            node = None
        if node is None:
            self._wide.append(name)
        self._known[name] = node

    def _node_of(self, row, nodes):
        if row[0] == "if":
            return self._either(self._ifs, nodes[0], nodes[1])
        if row[0] == "read":
            return self._leaf(("seen", row[2]), ("seen", row[2]))
        return self._made(row[2], tuple(nodes))

    def _is_wide(self, node):
        trees = self._trees_at(node)
        return len(trees) > MOST_TREES or any([is_large(tree) for tree in trees])

    def _leaf(self, key, tree):
        if key not in self._numbers:
            self._numbers[key] = len(self._nodes)
            self._nodes.append((0, tree))
        return self._numbers[key]

    def _either(self, number, yes, no):
        if yes == no:
            return yes
        key = ("if", number, yes, no)
        if key not in self._numbers:
            self._numbers[key] = len(self._nodes)
            self._nodes.append((number, yes, no))
        return self._numbers[key]

    def _made(self, word, parts):
        """The node of what is made of parts: their ifs are asked for together, the latest one first."""
        key = ("made", word) + parts
        if key in self._numbers:
            return self._numbers[key]
        latest = max([self._nodes[part][0] for part in parts], default=0)
        if latest == 0:
            return self._leaf(key, ("made", word, tuple([self._nodes[part][1] for part in parts])))
        yes = self._made(word, tuple([self._side(part, latest, 1) for part in parts]))
        no = self._made(word, tuple([self._side(part, latest, 2) for part in parts]))
        self._numbers[key] = self._either(latest, yes, no)
        return self._numbers[key]

    def _side(self, node, number, side):
        return self._nodes[node][side] if self._nodes[node][0] == number else node

    def _trees_at(self, node):
        known, waiting, trees = {node: True}, [node], []
        while len(waiting) > 0:
            number, *rest = self._nodes[waiting.pop()]
            if number == 0:
                trees.extend(rest)
            else:
                for below in rest:
                    if below not in known:
                        known[below] = True
                        waiting.append(below)
        return sorted(trees)
