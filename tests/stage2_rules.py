"""The rules of stage 2 of the document, written down as they stand there.

This is a slow second reader, by which the tests judge the program's own one:
each rule is a method that tries it from a place on and gives None where it
fails. It shares no code with the package.
"""

BLANK = " "
FEED = "\n"
QUOTE = '"'
TAGSIGNS = "ABCDEFGHIJKLMNOPQRSTUVWXYZabcdefghijklmnopqrstuvwxyz0123456789-#;/?:@&=+$_.~*'()"
NOT_FIRST = "-?:,[]{}#&*!|>'\"@`"
INNER = {"O": "I", "I": "I", "K": "P", "P": "P"}


class NoStream(Exception):
    """A block scalar by which the text is no stream at all."""


def remembered(rule):
    def asked(self, *told):
        key = (rule.__name__,) + told
        if key not in self.found:
            self.found[key] = rule(self, *told)
        return self.found[key]
    return asked


def empty(start, end=None, props=(None, None)):
    return [("scalar", props[0], props[1], "plain", "", start, start if end is None else end)]


def dressed(events, props, start):
    """The events of a node with these properties, which begin at start."""
    first = list(events[0])
    first[1], first[2] = props
    first[5 if first[0] == "scalar" else 4] = start
    return [tuple(first)] + events[1:]


class Rules:
    def __init__(self, text):
        self.text = text
        self.size = len(text)
        self.found = {}

    def at(self, p):
        return self.text[p] if p < self.size else ""

    def sign(self, p):
        return p < self.size and 33 <= ord(self.text[p]) <= 126

    def safe(self, c, p):
        return self.sign(p) and not (c in "IP" and self.text[p] in ",[]{}")

    def begin(self, p):
        return p == 0 or self.text[p - 1] == FEED

    def blanks(self, p):
        while self.at(p) == BLANK:
            p += 1
        return p

    def mark(self, p):
        return (self.begin(p) and self.text[p:p + 3] in ("---", "...")
                and (p + 3 == self.size or self.text[p + 3] in " \n"))

    # [9]

    def note(self, p):
        if self.at(p) != "#":
            return None
        while p < self.size and self.text[p] != FEED:
            p += 1
        return p

    def maybe_note(self, p):
        q = self.note(p)
        return p if q is None else q

    def feed_or_end(self, p):
        if p == self.size:
            return p
        return p + 1 if self.text[p] == FEED else None

    def close(self, p):
        if self.at(p) == BLANK:
            return self.feed_or_end(self.maybe_note(self.blanks(p)))
        if self.begin(p):
            return self.feed_or_end(self.maybe_note(p))
        return self.feed_or_end(p)

    def more(self, p):
        while self.begin(p):
            q = self.maybe_note(self.blanks(p))
            if self.at(q) == FEED:
                p = q + 1
            elif q == self.size and q > p:
                p = q
            else:
                return p
        return p

    def lines(self, p):
        if self.begin(p):
            return self.more(p)
        q = self.close(p)
        return None if q is None else self.more(q)

    def below(self, n, p):
        q = self.lines(p)
        if q is None or self.mark(q) or not self.begin(q) or self.blanks(q) - q < n:
            return None
        return self.blanks(q)

    def gap(self, n, c, p):
        if c in "OI":
            q = self.below(n, p)
            if q is not None:
                return q
        return self.blanks(p) if self.at(p) == BLANK else None

    def maybe_gap(self, n, c, p):
        q = self.gap(n, c, p)
        return p if q is None else q

    # [10]

    def next(self, c, p):
        if self.at(p) == ":":
            return p + 1 if self.safe(c, p + 1) else None
        if self.at(p) == "#":
            return p + 1 if p > 0 and self.sign(p - 1) else None
        return p + 1 if self.safe(c, p) else None

    def row(self, c, p):
        while True:
            q = self.next(c, self.blanks(p))
            if q is None:
                return p
            p = q

    def fold(self, n, p):
        """The place behind, and the number of empty lines."""
        p = self.blanks(p)
        if self.at(p) != FEED:
            return None
        p += 1
        many = 0
        while self.at(self.blanks(p)) == FEED:
            p = self.blanks(p) + 1
            many += 1
        if self.mark(p) or self.blanks(p) - p < n:
            return None
        return self.blanks(p), many

    def first(self, c, p):
        if not self.sign(p):
            return False
        if self.at(p) in "-?:":
            return self.safe(c, p + 1)
        return self.text[p] not in NOT_FIRST

    def plain(self, n, c, p):
        if not self.first(c, p):
            return None
        q = self.row(c, p + 1)
        value = self.text[p:q]
        while c in "OI":
            fold = self.fold(n, q)
            if fold is None:
                break
            r = self.next(c, fold[0])
            if r is None:
                break
            q = self.row(c, r)
            value += (FEED * fold[1] or BLANK) + self.text[fold[0]:q]
        return q, value

    # [11]

    def white(self, p):
        while p < self.size and self.text[p] in " \t":
            p += 1
        return p

    def voids(self, n, p):
        many = 0
        while p < self.size:
            if self.blanks(p) - p < n:
                q = self.blanks(p)
            else:
                q = self.white(p + n)
            if self.at(q) != FEED:
                break
            p = q + 1
            many += 1
        return p, many

    def folded(self, n, p):
        """What stands behind a line feed in quotes."""
        p, many = self.voids(n, p)
        if self.mark(p) or self.blanks(p) - p < n:
            return None
        return self.white(p + n), many

    def qfold(self, n, p):
        p = self.white(p)
        return self.folded(n, p + 1) if self.at(p) == FEED else None

    def single(self, n, c, p):
        if self.at(p) != "'":
            return None
        p += 1
        value = ""
        while True:
            fold = self.qfold(n, p) if c in "OI" else None
            if self.text[p:p + 2] == "''":
                value += "'"
                p += 2
            elif fold is not None:
                p = fold[0]
                value += FEED * fold[1] or BLANK
            elif p < self.size and self.text[p] not in "'\n":
                value += self.text[p]
                p += 1
            else:
                break
        return (p + 1, value) if self.at(p) == "'" else None

    def escape(self, n, c, p):
        if self.at(p) != "\\":
            return None
        sign = self.at(p + 1)
        if sign and sign in QUOTE + "\\/nt \t":
            return p + 2, {"n": FEED, "t": "\t"}.get(sign, sign)
        if sign == FEED and c in "OI":
            fold = self.folded(n, p + 2)
            return None if fold is None else (fold[0], FEED * fold[1])
        return None

    def double(self, n, c, p):
        if self.at(p) != QUOTE:
            return None
        p += 1
        value = ""
        while True:
            escape = self.escape(n, c, p)
            fold = self.qfold(n, p) if c in "OI" else None
            if escape is not None:
                p = escape[0]
                value += escape[1]
            elif fold is not None:
                p = fold[0]
                value += FEED * fold[1] or BLANK
            elif p < self.size and self.text[p] not in '"\\\n':
                value += self.text[p]
                p += 1
            else:
                break
        return (p + 1, value) if self.at(p) == QUOTE else None

    # [12]

    def name(self, p):
        q = p
        while self.sign(q) and self.text[q] not in ",[]{}":
            q += 1
        return q if q > p else None

    def anchor(self, p):
        return self.name(p + 1) if self.at(p) == "&" else None

    def tagsigns(self, p):
        while p < self.size and self.text[p] in TAGSIGNS:
            p += 1
        return p

    def tag(self, p):
        if self.text[p:p + 2] == "!!" and self.tagsigns(p + 2) > p + 2:
            return self.tagsigns(p + 2)
        return self.tagsigns(p + 1) if self.at(p) == "!" else None

    @remembered
    def props(self, n, c, p):
        for one, other, swap in ((self.tag, self.anchor, True), (self.anchor, self.tag, False)):
            q = one(p)
            if q is None:
                continue
            ahead = self.text[p:q] if swap else self.text[p + 1:q]
            behind = None
            gap = self.gap(n, c, q)
            if gap is not None and other(gap) is not None:
                q = other(gap)
                behind = self.text[gap + 1:q] if swap else self.text[gap:q]
            return q, ((behind, ahead) if swap else (ahead, behind))
        return None

    @remembered
    def json(self, n, c, p):
        for style, rule in (("double", self.double), ("single", self.single)):
            found = rule(n, c, p)
            if found is not None:
                return found[0], [("scalar", None, None, style, found[1], p, found[0])]
        return self.list(n, c, p) or self.table(n, c, p)

    def plain_node(self, n, c, p):
        found = self.plain(n, c, p)
        return found and (found[0], [("scalar", None, None, "plain", found[1], p, found[0])])

    def alias(self, p):
        q = self.name(p + 1) if self.at(p) == "*" else None
        return None if q is None else (q, [("alias", self.text[p + 1:q], p, q)])

    def behind_props(self, n, c, p, rules, empty_too):
        props = self.props(n, c, p)
        if props is None:
            return None
        gap = self.gap(n, c, props[0])
        if gap is not None:
            for rule in rules:
                found = rule(n, c, gap)
                if found is not None:
                    return found[0], dressed(found[1], props[1], p)
        return (props[0], empty(p, props[0], props[1])) if empty_too else None

    @remembered
    def flow(self, n, c, p):
        return (self.alias(p) or self.json(n, c, p) or self.plain_node(n, c, p)
                or self.behind_props(n, c, p, (self.json, self.plain_node), True))

    @remembered
    def near(self, n, c, p):
        return self.json(n, c, p) or self.behind_props(n, c, p, (self.json,), False)

    @remembered
    def word(self, n, c, p):
        return (self.alias(p) or self.plain_node(n, c, p)
                or self.behind_props(n, c, p, (self.plain_node,), True))

    @remembered
    def colon(self, n, c, p):
        if self.at(p) != ":" or self.safe(c, p + 1):
            return None
        gap = self.gap(n, c, p + 1)
        found = None if gap is None else self.flow(n, c, gap)
        return found or (p + 1, empty(p + 1))

    @remembered
    def joined(self, n, c, p):
        if self.at(p) != ":":
            return None
        return self.flow(n, c, self.maybe_gap(n, c, p + 1)) or (p + 1, empty(p + 1))

    @remembered
    def list(self, n, c, p):
        if self.at(p) != "[":
            return None
        q, events = self.many(n, INNER[c], self.maybe_gap(n, INNER[c], p + 1), self.item)
        if self.at(q) != "]":
            return None
        return q + 1, [("sequence", None, None, "flow", p)] + events + [("close", q + 1)]

    @remembered
    def table(self, n, c, p):
        if self.at(p) != "{":
            return None
        q, events = self.many(n, INNER[c], self.maybe_gap(n, INNER[c], p + 1), self.entry)
        if self.at(q) != "}":
            return None
        return q + 1, [("mapping", None, None, "flow", p)] + events + [("close", q + 1)]

    def many(self, n, c, p, rule):
        """items? or entries?"""
        found = rule(n, c, p)
        if found is None:
            return p, []
        q = self.maybe_gap(n, c, found[0])
        if self.at(q) != ",":
            return q, found[1]
        end, events = self.many(n, c, self.maybe_gap(n, c, q + 1), rule)
        return end, found[1] + events

    @remembered
    def item(self, n, c, p):
        found = self.pair(n, c, p)
        if found is None:
            return self.flow(n, c, p)
        last = found[1][-1]
        end = last[-1]
        return found[0], [("mapping", None, None, "flow", p)] + found[1] + [("close", end)]

    def pair(self, n, c, p):
        if self.at(p) == "?":
            gap = self.gap(n, c, p + 1)
            if gap is not None:
                return self.entry2(n, c, gap, p + 1)
        for key, value in ((self.near, self.joined), (self.word, self.colon)):
            found = key(0, "P", p)
            if found is not None:
                worth = value(n, c, self.blanks(found[0]))
                if worth is not None:
                    return worth[0], found[1] + worth[1]
        found = self.colon(n, c, p)
        return found and (found[0], empty(p) + found[1])

    @remembered
    def entry(self, n, c, p):
        if self.at(p) == "?":
            gap = self.gap(n, c, p + 1)
            if gap is not None:
                return self.entry2(n, c, gap, p + 1)
        return self.entry1(n, c, p)

    @remembered
    def entry1(self, n, c, p):
        for key, value in ((self.near, self.joined), (self.word, self.colon)):
            found = key(n, c, p)
            if found is not None:
                worth = value(n, c, self.maybe_gap(n, c, found[0]))
                if worth is None:
                    worth = found[0], empty(found[0])
                return worth[0], found[1] + worth[1]
        found = self.colon(n, c, p)
        return found and (found[0], empty(p) + found[1])

    def entry2(self, n, c, p, behind):
        return self.entry1(n, c, p) or (p, empty(behind) + empty(behind))

    # [13]: a rule gives the place behind it, the events, and the end of the node

    @remembered
    def node(self, n, v, p):
        return self.scalar_node(n, p) or self.blocks(n, v, p) or self.flow_node(n, p)

    def scalar_node(self, n, p):
        gap = self.gap(n + 1, "O", p)
        if gap is None:
            return None
        start, props = gap, (None, None)
        found = self.props(n + 1, "O", gap)
        if found is not None:
            further = self.gap(n + 1, "O", found[0])
            if further is not None:
                gap, props = further, found[1]
        scalar = self.scalar(n, gap)
        if scalar is None:
            return None
        end, style, value, stop = scalar
        return end, [("scalar", props[0], props[1], style, value, start, stop)], stop

    def flow_node(self, n, p):
        gap = self.gap(n + 1, "O", p)
        found = None if gap is None else self.flow(n + 1, "O", gap)
        end = None if found is None else self.lines(found[0])
        return None if end is None else (end, found[1], found[0])

    def blocks(self, n, v, p):
        gap = self.gap(n + 1, "O", p)
        if gap is not None:
            anchor, tag = self.anchor(gap), self.tag(gap)
            ways = [self.props(n + 1, "O", gap)]
            if tag is not None:
                ways.append((tag, (None, self.text[gap:tag])))
            elif anchor is not None:
                ways.append((anchor, (self.text[gap + 1:anchor], None)))
            for way in ways:
                end = None if way is None else self.lines(way[0])
                found = None if end is None else self.rows(n, v, end)
                if found is not None:
                    return found[0], dressed(found[1], way[1], gap), found[2]
        end = self.lines(p)
        return None if end is None else self.rows(n, v, end)

    def rows(self, n, v, p):
        return (self.dashes(n, p) or (v == "V" and self.dashes(n - 1, p)) or self.pairs(n, p)) or None

    def dashes(self, n, p):
        m = self.blanks(p) - p
        if not self.begin(p) or self.mark(p) or m <= n:
            return None
        return self.dash_rows(m, p + m)

    def pairs(self, n, p):
        m = self.blanks(p) - p
        if not self.begin(p) or self.mark(p) or m <= n:
            return None
        return self.both_rows(m, p + m)

    def again(self, m, p, rule):
        """(LB -MARK blank{m} x)*"""
        events, stop = [], None
        while self.begin(p) and not self.mark(p) and self.blanks(p) - p >= m:
            found = rule(m, p + m)
            if found is None:
                break
            p, more, stop = found
            events += more
        return p, events, stop

    @remembered
    def dash_rows(self, m, p):
        return self.collection(m, p, self.dash, "sequence")

    @remembered
    def both_rows(self, m, p):
        return self.collection(m, p, self.both, "mapping")

    def collection(self, m, p, rule, kind):
        found = rule(m, p)
        if found is None:
            return None
        end, events, stop = found
        end, more, later = self.again(m, end, rule)
        stop = stop if later is None else later
        return end, [(kind, None, None, "block", p)] + events + more + [("close", stop)], stop

    @remembered
    def dash(self, m, p):
        if self.at(p) != "-" or self.sign(p + 1):
            return None
        return self.inner(m, "S", p + 1)

    @remembered
    def both(self, m, p):
        if self.at(p) == "?" and (p + 1 == self.size or self.text[p + 1] in " \n"):
            found = self.inner(m, "V", p + 1)
            if found is not None:
                q, key, stop = found
                if self.begin(q) and self.blanks(q) - q >= m and self.at(q + m) == ":":
                    worth = self.inner(m, "V", q + m + 1)
                    if worth is not None:
                        return worth[0], key + worth[1], worth[2]
                return q, key + empty(stop), stop
        found = self.near(0, "K", p) or self.word(0, "K", p)
        q, key = (self.blanks(found[0]), found[1]) if found is not None else (p, empty(p))
        if self.at(q) != ":":
            return None
        worth = self.node(m, "V", q + 1) or self.empty_lines(q + 1)
        return worth and (worth[0], key + worth[1], worth[2])

    def empty_lines(self, p):
        end = self.lines(p)
        return None if end is None else (end, empty(p), p)

    @remembered
    def inner(self, m, v, p):
        k = self.blanks(p) - p
        if k:
            found = self.compact(m + 1 + k, p + k)
            if found is not None:
                return found
        return self.node(m, v, p) or self.empty_lines(p)

    def compact(self, m, p):
        return self.dash_rows(m, p) or self.both_rows(m, p)

    # [14], [15]

    def header(self, p):
        """The place behind, the digit or 0, and the sign or nothing."""
        digit, sign = 0, ""
        for _ in range(2):
            if self.at(p) and self.at(p) in "123456789" and not digit:
                digit = int(self.at(p))
                p += 1
            elif self.at(p) and self.at(p) in "+-" and not sign:
                sign = self.at(p)
                p += 1
        return p, digit, sign

    def line(self, p):
        """A line without its line feed, and the place behind it."""
        feed = self.text.find(FEED, p)
        return (self.text[p:], self.size) if feed < 0 else (self.text[p:feed], feed + 1)

    def indentation(self, n, p):
        most = n + 1
        while p < self.size:
            row, after = self.line(p)
            deep = len(row) - len(row.lstrip(" "))
            if row.strip(" "):
                if deep < n + 1 or self.mark(p):
                    return most
                if deep < most and most > n + 1:
                    raise NoStream()
                return deep
            most = max(most, deep)
            p = after
        return most

    @remembered
    def scalar(self, n, p):
        if self.at(p) not in ("|", ">"):
            return None
        stop, digit, sign = self.header(p + 1)
        end = self.close(stop)
        if end is None:
            return None
        deep = n + digit if digit else self.indentation(n, end)
        rows = []
        while end < self.size:
            row, after = self.line(end)
            feed = self.text[after - 1] == FEED
            ahead = len(row) - len(row.lstrip(" "))
            if not row.strip(" ") and ahead <= deep:
                rows.append((None, feed))
            elif ahead >= deep and len(row) > deep and not (deep == 0 and self.mark(end)):
                rows.append((row[deep:], feed))
                stop = end + len(row)
            else:
                break
            end = after
        if self.begin(end) and self.note(self.blanks(end)) is not None and self.blanks(end) - end < deep:
            end = self.more(end)
        style = "literal" if self.text[p] == "|" else "folded"
        return end, style, self.worth(rows, style, sign), stop

    @staticmethod
    def worth(rows, style, sign):
        last = max([k for k in range(len(rows)) if rows[k][0] is not None], default=-1)
        kept = "".join(FEED for row, feed in rows[last + 1:] if feed)
        if last < 0:
            return kept if sign == "+" else ""
        own = FEED if rows[last][1] else ""
        tail = {"-": "", "+": own + kept, "": own}[sign]
        value = ""
        ahead = None
        voids = 0
        for row, _ in rows[:last + 1]:
            if row is None:
                voids += 1
                continue
            if ahead is None:
                value = FEED * voids
            elif style == "literal" or ahead[0] in " \t" or row[0] in " \t":
                value += FEED * (voids + 1)
            else:
                value += FEED * voids or BLANK
            value += row
            ahead = row
            voids = 0
        return value + tail

    # [16]

    def document(self, p):
        if self.mark(p) and self.at(p) == "-":
            found = self.node(-1, "S", p + 3) or self.empty_lines(p + 3)
            if found is not None:
                return found[0], [("document", True)] + found[1]
        found = self.node(-1, "S", p)
        return found and (found[0], [("document", False)] + found[1])

    def stream(self):
        events = []
        p = self.more(0)
        found = self.document(p)
        if found is not None:
            p, events = found[0], list(found[1])
        begun = found is not None
        while self.mark(p):
            dots = self.at(p) == "."
            if begun:
                events.append(("over", dots))
            begun = False
            q = p
            if dots:
                q = self.lines(p + 3)
                if q is None:
                    if events and events[-1][0] == "over":
                        events.pop()
                    return None
            found = self.document(q)
            if found is None and not dots:
                return None
            p = q
            if found is not None:
                p = found[0]
                events += found[1]
                begun = True
        if p != self.size:
            return None
        return events + [("over", False)] if begun else events


def stream(text):
    """The events of a text by the rules, None if it is no stream."""
    try:
        return Rules(text).stream()
    except NoStream:
        return None
