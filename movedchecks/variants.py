"""The trees that names can have, one for each choice of lists of the ifs whose joins lead to them.

A long chain of ifs has more choices than can be gone through. Therefore each name has a node: a tree, or an if with
a node for either of its lists. Equal nodes are kept once, and an if whose lists give the same node is left out.
"""

MOST_TREES = 4
MOST_PARTS = 12
MOST_READINGS = 2


class Variants:
    """The trees of all names of rows that use only what is in sight; rows have tuples for lists."""

    def __init__(self, inputs, rows):
        self._numbers = {}
        self._nodes = []
        # For each node the most parts and the most readings of one of its trees.
        self._sizes = []
        self._known = {}
        self._wide = []
        self._ifs = 0
        for name in inputs:
            self._known[name] = self._leaf(("in", name), ("in", name), (1, 0))
        self._go_through(rows)

    def wide(self):
        """The ascending list of the names that have too many trees, or one that is too large."""
        return sorted(self._wide)

    def trees(self, name):
        """The ascending list of the different trees of a name that is not wide."""
        return self._trees_at(self._known[name])

    def _go_through(self, rows):
        for row in rows:
            if row[0] == "make":
                self._note(row[1], row[3], row)
            elif row[0] == "read":
                self._known[row[1]] = self._leaf(("seen", row[2]), ("seen", row[2]), (1, 1))
            elif row[0] in ("if", "loop"):
                self._go_through(row[1])
                self._go_through(row[2])
                if row[0] == "if":
                    self._note_joins(row)

    def _note_joins(self, row):
        # An if gets its number behind those in its lists, so that a node stands above all that it rests on.
        self._ifs += 1
        for name, one, other in row[3]:
            self._note(name, (one, other), row)

    def _note(self, name, used, row):
        nodes = tuple([self._known[part] for part in used])
        # Each tree of a part stands in a tree of the name: what is made of a wide name is wide, too.
        node = None
        if None not in nodes:
            node = self._either(self._ifs, *nodes) if row[0] == "if" else self._made(row[2], nodes)
        if node is None or self._is_wide(node):
            self._wide.append(name)
            node = None
        self._known[name] = node

    def _is_wide(self, node):
        parts, readings = self._sizes[node]
        if parts > MOST_PARTS or readings > MOST_READINGS:
            return True
        return self._nodes[node][0] > 0 and len(self._trees_at(node)) > MOST_TREES

    def _leaf(self, key, tree, size):
        if key not in self._numbers:
            self._numbers[key] = len(self._nodes)
            self._nodes.append((0, tree))
            self._sizes.append(size)
        return self._numbers[key]

    def _either(self, number, yes, no):
        if yes == no:
            return yes
        key = ("if", number, yes, no)
        if key not in self._numbers:
            self._numbers[key] = len(self._nodes)
            self._nodes.append((number, yes, no))
            self._sizes.append(tuple([max(pair) for pair in zip(self._sizes[yes], self._sizes[no])]))
        return self._numbers[key]

    def _made(self, word, parts):
        """The node of what is made of parts: their ifs are asked for together, the latest one first."""
        key = ("made", word) + parts
        if key in self._numbers:
            return self._numbers[key]
        latest = max([self._nodes[part][0] for part in parts], default=0)
        if latest == 0:
            sizes = [self._sizes[part] for part in parts]
            size = (1 + sum([part[0] for part in sizes]), sum([part[1] for part in sizes]))
            return self._leaf(key, ("made", word, tuple([self._nodes[part][1] for part in parts])), size)
        yes = self._made(word, tuple([self._side(part, latest, 1) for part in parts]))
        no = self._made(word, tuple([self._side(part, latest, 2) for part in parts]))
        self._numbers[key] = self._either(latest, yes, no)
        return self._numbers[key]

    def _side(self, node, number, side):
        return self._nodes[node][side] if self._nodes[node][0] == number else node

    def _trees_at(self, node):
        known, waiting, trees = {node: True}, [node], []
        while len(waiting) > 0:
            number, *rest = self._nodes[waiting.pop()]
            if number == 0:
                trees.extend(rest)
            else:
                for below in rest:
                    if below not in known:
                        known[below] = True
                        waiting.append(below)
        return sorted(trees)
