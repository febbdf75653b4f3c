"""Texts of rows, programs, addresses, choices, results, of what is seen, and of deeds."""

NOTHING = "-"


def with_commas(parts):
    """Parts of one kind, joined by commas."""
    return ",".join(parts) if len(parts) > 0 else NOTHING


def _lines(rows):
    return "".join([show_row(row) for row in rows])


def show_row(row):
    """The lines of a row."""
    kind = row[0]
    if kind == "if":
        joins = with_commas([join[0] + "=" + join[1] + "/" + join[2] for join in row[3]])
        return "if\n" + _lines(row[1]) + "else\n" + _lines(row[2]) + "join " + joins + "\n"
    if kind == "loop":
        return "loop\n" + _lines(row[1]) + "round\n" + _lines(row[2]) + "back\n"
    # The args of a make and of a write stand last, all else is a word.
    words = [part if isinstance(part, str) else with_commas(part) for part in row]
    return " ".join(words) + "\n"


def show_program(program):
    """The lines of a program."""
    return "inputs " + with_commas(program.inputs) + "\n" + _lines(program.rows())


def show_address(address):
    """The text of an address or of a gap."""
    return ".".join([str(number) for number in address])


def show_choices(choices):
    """The text of choices."""
    return with_commas(choices)


def show_result(result):
    """The text of a result."""
    if result[0] == "in":
        return result[1]
    if result[0] == "seen":
        return result[1] + "#" + str(result[2])
    return result[1] + "(" + ",".join([show_result(part) for part in result[2]]) + ")"


def show_results(results):
    """The text of several results."""
    return with_commas([show_result(result) for result in results])


def show_seen(seen):
    """The lines of what is seen of a run."""
    written, end = seen
    lines = []
    for channel in sorted(written):
        rows = ["[" + show_results(results) + "]" for results in written[channel]]
        lines.append(" ".join([channel] + rows) + "\n")
    return "".join(lines) + " ".join(end) + "\n"


def show_deed(deed):
    """The text of a deed."""
    kind = deed[0]
    if kind == "put":
        return "put " + show_address(deed[1]) + "\n" + show_row(deed[2])
    # What is no address is a name.
    words = [part if isinstance(part, str) else show_address(part) for part in deed]
    return " ".join(words)
