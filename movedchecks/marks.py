"""Faces: trees with marks in the place of readings, and the moments of marks."""

from movedchecks.results import different


def _faces_behind(tree, many):
    """The list of tuples (face, many) of a tree that stands behind so many marks of each channel."""
    if tree[0] == "in":
        return [(tree, many)]
    if tree[0] == "seen":
        before = many.get(tree[1], 0)
        elder = [(("mark", tree[1], index), many) for index in range(before)]
        return elder + [(("mark", tree[1], before), {**many, tree[1]: before + 1})]
    return [(("made", tree[1], inner), after) for inner, after in _all_faces_behind(tree[2], many)]


def _all_faces_behind(trees, many):
    """The list of tuples (tuple of faces, many) of trees that stand behind one another."""
    found = [((), many)]
    for tree in trees:
        found = [
            (begun + (face,), after)
            for begun, before in found
            for face, after in _faces_behind(tree, before)
        ]
    return found


def faces(tree):
    """The ascending list of all faces of a tree."""
    return [together[0] for together in faces_together([tree])]


def faces_together(trees):
    """The ascending list of all tuples of faces of trees, in their order, together."""
    return sorted([together for together, _ in _all_faces_behind(trees, {})])


def _standing(wholes):
    """The list of all that stands in faces or in results, as often as it does, from left to right."""
    found = []
    for whole in wholes:
        found.append(whole)
        if whole[0] == "made":
            found.extend(_standing(whole[2]))
    return found


def marks(faces):
    """The ascending list of the different marks of a tuple of faces."""
    return different([part for part in _standing(faces) if part[0] == "mark"])


def parts(faces):
    """The ascending list of the different faces that stand in a tuple of faces, they themselves too."""
    return different(_standing(faces))


def filled(face, numbers):
    """The result that a face stands for, with a number for each of its marks."""
    if face[0] == "mark":
        return ("seen", face[1], numbers[face])
    if face[0] == "made":
        return ("made", face[1], tuple([filled(part, numbers) for part in face[2]]))
    return face


def _face_with(result, known):
    """The face of a result; known is the dict from (channel, number) to the marks."""
    if result[0] == "seen":
        return known[result[1:]]
    if result[0] == "made":
        return ("made", result[1], tuple([_face_with(part, known) for part in result[2]]))
    return result


def face_of(results):
    """The tuple of the faces of results together, and the dict from their marks to the numbers."""
    known, many = {}, {}
    for part in _standing(results):
        if part[0] == "seen" and part[1:] not in known:
            index = many.get(part[1], 0)
            many[part[1]] = index + 1
            known[part[1:]] = ("mark", part[1], index)
    numbers = {known[reading]: reading[1] for reading in known}
    return tuple([_face_with(result, known) for result in results]), {mark: numbers[mark] for mark in sorted(numbers)}


def moment(number, first, second):
    """The moment of a mark with a number, where two programs have written its channel so often."""
    if number > max(first, second):
        return "later"
    if number < min(first, second):
        return "gone"
    return str(number - first)
