"""Commands, as texts, and the answers to them."""

from movedchecks.book import Book
from movedchecks.errors import BadChoices, Full, NoCommand, NoGap, Nothing, NoText, Refused, TooMany, Unlike
from movedchecks.notation import (
    NOTHING, show_choices, show_deed, show_program, show_result, show_seen, with_commas
)
from movedchecks.playing import play
from movedchecks.readers import read_address, read_choices, read_deed, read_result
from movedchecks.results import are_made

DONE = "ok"
REFUSED = "refused"
UNLIKE = "unlike"
ALIKE = "alike"
YES = "yes"
NO = "no"


class Desk:
    """Keeps a Book, and does what lines tell."""

    def __init__(self, program):
        self._book = Book(program)

    def execute(self, line):
        """Does what a line tells, and returns the answer."""
        if not isinstance(line, str):
            raise NoCommand()
        try:
            return self._answer(line)
        except NoText:
            raise NoCommand() from None
        except Unlike:
            return UNLIKE
        except (BadChoices, Full, NoGap, Nothing, Refused, TooMany):
            return REFUSED

    def _answer(self, line):
        """The answer to a line; NoText is raised for what is no command."""
        words = line.split(" ")
        if words[0] == "sight" and len(words) == 2:
            return with_commas(self._book.program.in_sight(read_address(words[1])))
        if words[0] == "play" and len(words) > 1:
            return self._played(read_choices(words[1]), [read_result(word) for word in words[2:]])
        if line in ("back", "again"):
            return show_deed(self._book.back() if line == "back" else self._book.again())
        if line in ("program", "first"):
            return show_program(self._book.program if line == "program" else self._book.first)
        if line == "log":
            return str(len(self._book))
        if line == "alike":
            return YES if self._book.is_safe() else NO
        if line == "parting":
            return self._parting()
        self._book.do(read_deed(line))
        return DONE

    def _parting(self):
        found = self._book.parting()
        if found is None:
            return ALIKE
        choices, bad = found
        results = " ".join([show_result(result) for result in bad])
        return show_choices(choices) + " " + (results if len(bad) > 0 else NOTHING)

    def _played(self, choices, bad):
        if not are_made(bad):
            raise NoCommand()
        return show_seen(play(self._book.program, choices, bad))
