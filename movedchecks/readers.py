"""What a text was shown from."""

from movedchecks.book import is_deed
from movedchecks.errors import MoveError, NoText
from movedchecks.kinds import are_choices, is_address, is_name
from movedchecks.notation import NOTHING
from movedchecks.programs import Program
from movedchecks.results import is_result
from movedchecks.rows import is_row

LETTERS = "abcdefghijklmnopqrstuvwxyz"
DIGITS = "0123456789"
MOST_DIGITS = 40
DEEPEST_RESULT = 40
DEEPEST_LISTS = 20
# Lines that begin with one of these words end a list of rows.
ENDINGS = ("else", "join", "round", "back")


def _parted(text):
    """The tuple of the parts that commas join in a text."""
    return () if text == NOTHING else tuple(text.split(","))


def _number_of(text):
    if not 1 <= len(text) <= MOST_DIGITS or not all([sign in DIGITS for sign in text]):
        raise NoText()
    if len(text) > 1 and text[0] == "0":
        raise NoText()
    return int(text)


def _end_of(text, at, signs):
    """The index behind the longest part of a text that begins at an index and has these signs alone."""
    while at < len(text) and text[at] in signs:
        at += 1
    return at


def _result_at(text, at, brackets):
    """The tuple of the result that begins at an index and of the index behind it, within so many brackets."""
    behind = _end_of(text, at, LETTERS)
    name, sign = text[at:behind], text[behind:behind + 1]
    if not is_name(name):
        raise NoText()
    if sign == "#":
        end = _end_of(text, behind + 1, DIGITS)
        return ("seen", name, _number_of(text[behind + 1:end])), end
    if sign == "(":
        parts, end = _parts_at(text, behind + 1, brackets + 1)
        return ("made", name, parts), end
    return ("in", name), behind


def _parts_at(text, at, brackets):
    """The tuple of the tuple of results that begin behind a bracket, and of the index behind its end."""
    if brackets > DEEPEST_RESULT:
        raise NoText()
    if text[at:at + 1] == ")":
        return (), at + 1
    parts, sign = [], ","
    while sign == ",":
        part, at = _result_at(text, at, brackets)
        parts.append(part)
        sign = text[at:at + 1]
        at += 1
    if sign != ")":
        raise NoText()
    return tuple(parts), at


def _is_text(thing):
    return isinstance(thing, str)


class Lines:
    """The lines of a text, which are read one behind another; each ends with a line feed."""

    def __init__(self, text):
        if not _is_text(text) or not text.endswith("\n"):
            raise NoText()
        self._lines = text.split("\n")[:-1]
        self._at = 0

    def is_at_end(self):
        """Whether all lines are read."""
        return self._at == len(self._lines)

    def words(self):
        """The list of the words of the next line, which is read then."""
        if self.is_at_end():
            raise NoText()
        self._at += 1
        return self._lines[self._at - 1].split(" ")

    def rows(self, deep):
        """The tuple of the next rows, up to the end of their list, which is so many lists deep."""
        if deep > DEEPEST_LISTS:
            raise NoText()
        found = []
        while not self._is_list_at_end():
            found.append(self.row(deep))
        return tuple(found)

    def row(self, deep):
        """The next row, in a list that is so many lists deep."""
        words = self.words()
        if words == ["if"]:
            yes = self._list_up_to(["else"], deep + 1)
            no = self.rows(deep + 1)
            return ("if", yes, no, self._joins())
        if words == ["loop"]:
            once = self._list_up_to(["round"], deep + 1)
            return ("loop", once, self._list_up_to(["back"], deep + 1))
        if words[0] == "make" and len(words) == 4 or words[0] == "write" and len(words) == 3:
            return tuple(words[:-1]) + (_parted(words[-1]),)
        return tuple(words)

    def _is_list_at_end(self):
        return self.is_at_end() or self._lines[self._at].split(" ")[0] in ENDINGS

    def _list_up_to(self, ending, deep):
        found = self.rows(deep)
        if self.words() != ending:
            raise NoText()
        return found

    def _joins(self):
        words = self.words()
        if len(words) != 2 or words[0] != "join":
            raise NoText()
        return tuple([_join_of(part) for part in _parted(words[1])])


def _join_of(text):
    name, _, names = text.partition("=")
    one, _, other = names.partition("/")
    return name, one, other


def read_row(text):
    """The row that a text shows, with tuples for lists."""
    lines = Lines(text)
    row = lines.row(0)
    if not lines.is_at_end() or not is_row(row):
        raise NoText()
    return row


def read_program(text):
    """The Program that a text shows."""
    lines = Lines(text)
    words = lines.words()
    if len(words) != 2 or words[0] != "inputs":
        raise NoText()
    inputs = list(_parted(words[1]))
    rows = lines.rows(0)
    if not lines.is_at_end() or inputs != sorted(inputs):
        raise NoText()
    try:
        return Program(inputs, rows)
    except MoveError:
        raise NoText() from None


def read_address(text):
    """The address or the gap that a text shows."""
    if not _is_text(text):
        raise NoText()
    address = tuple([_number_of(part) for part in text.split(".")])
    if not is_address(address):
        raise NoText()
    return address


def read_choices(text):
    """The list of the choices that a text shows."""
    choices = list(_parted(text)) if _is_text(text) else None
    if not are_choices(choices):
        raise NoText()
    return choices


def read_result(text):
    """The result that a text shows."""
    if not _is_text(text):
        raise NoText()
    result, end = _result_at(text, 0, 0)
    if end != len(text) or not is_result(result):
        raise NoText()
    return result


def _put_of(words, text):
    if len(words) != 2 or words[0] != "put":
        raise NoText()
    return ("put", read_address(words[1]), read_row(text))


def read_deed(text):
    """The deed that a text shows, with tuples for the lists of its row."""
    if not _is_text(text):
        raise NoText()
    head, sign, rest = text.partition("\n")
    words = head.split(" ")
    if sign == "\n":
        return _put_of(words, rest)
    if words[0] in ("out", "move"):
        deed = (words[0],) + tuple([read_address(word) for word in words[1:]])
    else:
        deed = tuple(words)
    if not is_deed(deed):
        raise NoText()
    return deed
