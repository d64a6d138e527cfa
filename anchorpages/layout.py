"""The lines of the texts of scalars."""

from anchorpages.signs import FEED, MARKS


def line_text(value, style, indent, width):
    """The text of a plain, single or double scalar."""
    rows = [value] if style == "double" else spread(value)
    words = [[quoted(word, style) for word in words_of(row, width)] for row in rows]
    quote = {"plain": "", "single": "'", "double": "\""}[style]
    words[0][0] = quote + words[0][0]
    words[-1][-1] = words[-1][-1] + quote
    lines = []
    for row in words:
        for line in filled(row, indent, width, not lines):
            lines.append(line)
    return FEED.join(lines)


def spread(value):
    """The lines of a value, with those that are empty as they are to be written."""
    parts = value.split(FEED)
    rows = [parts[0]]
    for index in range(1, len(parts)):
        rows.append("")
        if parts[index] != "" or index == len(parts) - 1:
            rows.append(parts[index])
    return rows


def words_of(row, width):
    """What stands between the places at which a row may be parted; without a width it is not."""
    words = []
    begin = 0
    for place in range(1, len(row) - 1):
        if width > 0 and row[place] == " " and row[place - 1] not in " \t\n" and row[place + 1] not in " \t\n":
            words.append(row[begin:place])
            begin = place + 1
    return words + [row[begin:]]


def quoted(word, style):
    """A word with its escapes."""
    if style == "single":
        return word.replace("'", "''")
    if style == "double":
        return word.replace("\\", "\\\\").replace("\"", "\\\"").replace(FEED, "\\n")
    return word


def filled(words, indent, width, first):
    """The lines of words; the first line of a scalar has nothing ahead of it."""
    if words == [""]:
        return [""]
    line = words[0] if first else ahead_of(words[0], indent) + words[0]
    lines = []
    for word in words[1:]:
        if len(line) + 1 + len(word) > width:
            lines.append(line)
            line = ahead_of(word, indent) + word
        else:
            line = line + " " + word
    return lines + [line]


def ahead_of(word, indent):
    """The blanks ahead of a line that begins with a word."""
    return " " if indent == 0 and is_like_mark(word) else " " * indent


def is_like_mark(word):
    """Whether a mark stands where this word begins a line."""
    return word[:3] in MARKS and word[3:4] in ("", " ")


def block_text(value, folded, indent, width, deep):
    """The text of a literal or a folded scalar."""
    sign = ">" if folded else "|"
    body = value.rstrip(FEED)
    feeds = len(value) - len(body)
    if body == "":
        return sign + ("+" if feeds else "-") + FEED * feeds
    parts = body.split(FEED)
    rows = [words_of(part, 0 if part[:1] in (" ", "\t") else width) for part in parts]
    # All lines stand behind the same blanks, so one of them may move the others.
    aside = indent == 0 and any([is_like_mark(word) for row in rows for word in row])
    if body.lstrip(FEED)[0] == " ":
        sign = sign + ("2" if aside else str(deep))
    lines = [sign + ("-" if feeds == 0 else "" if feeds == 1 else "+")]
    lines.extend(block_lines(rows, folded, 1 if aside else indent, width))
    return FEED.join(lines) + FEED * max(0, feeds - 1)


def block_lines(rows, folded, indent, width):
    """The lines of rows of words, with one more empty line where a line feed would be a blank."""
    lines = []
    before = ""
    for row in rows:
        word = row[0]
        if word != "":
            if folded and before != "" and before[0] not in " \t" and word[0] not in " \t":
                lines.append("")
            before = word
        lines.extend(filled(row, indent, width, False))
    return lines
