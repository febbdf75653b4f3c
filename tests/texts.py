"""A second telling of the texts: words and lines one by one."""


def several(parts):
    parts = list(parts)
    return ",".join(parts) if parts else "-"


def lines_of(row):
    if row[0] == "if":
        yield "if"
        yield from all_lines(row[1])
        yield "else"
        yield from all_lines(row[2])
        yield "join " + several(f"{name}={one}/{other}" for name, one, other in row[3])
    elif row[0] == "loop":
        yield "loop"
        yield from all_lines(row[1])
        yield "round"
        yield from all_lines(row[2])
        yield "back"
    elif row[0] == "make":
        yield f"make {row[1]} {row[2]} {several(row[3])}"
    elif row[0] == "write":
        yield f"write {row[1]} {several(row[2])}"
    else:
        yield " ".join(row)


def all_lines(rows):
    for row in rows:
        yield from lines_of(row)


def text_of(lines):
    return "".join(f"{line}\n" for line in lines)


def program_text(program):
    return text_of([f"inputs {several(sorted(program.inputs))}", *all_lines(program.rows())])


def address_text(address):
    return ".".join(f"{number:d}" for number in address)


def result_text(result):
    if result[0] == "in":
        return result[1]
    if result[0] == "seen":
        return f"{result[1]}#{result[2]}"
    return f"{result[1]}({','.join(map(result_text, result[2]))})"


def seen_text(written, end):
    lines = [f"{channel} {' '.join(f'[{several(map(result_text, row))}]' for row in rows)}" for channel, rows in sorted(written.items())]
    return text_of(lines + [" ".join(end)])


def deed_text(deed):
    if deed[0] == "put":
        return f"put {address_text(deed[1])}\n" + text_of(lines_of(deed[2]))
    if deed[0] == "name":
        return " ".join(deed)
    return " ".join([deed[0], *map(address_text, deed[1:])])
