"""Pages, their logs and what is said to them."""

import random
import time
import unittest

from anchorpages.edits import changed, dropped, put, renamed, rewritten
from anchorpages.errors import (Captured, Needed, NoAnchor, NoCollection, NoEntry, NoEvents, NoLine, NoLog, NoName, NoPlace, NoScalar, NoStyle, NoValue,
                                PageError, Refused, Spoilt)
from anchorpages.logs import Page, replayed
from anchorpages.reader import read, refused
from anchorpages.rows import bare
from anchorpages.writers import events_text
from tests import plain_writing
from tests import strange
from tests.test_edits import outcome

A = ("scalar", None, None, "plain", "a")
B = ("scalar", None, None, "plain", "b")
CLOSE = ("close",)
TEXT = "- &x a\n- [*x, b]\n- c: d\n"
NO_TEXTS = [thing for thing in strange.ALL if not isinstance(thing, str)]


def in_quotes(text):
    return '"' + "".join({"\\": "\\\\", '"': '\\"', "\n": "\\n", "\t": "\\t"}.get(sign, sign) for sign in text) + '"'


def put_text(rows, kind):
    """The text of the rows of a put in a log, by the words of the document."""
    if kind == "mapping":
        rows = [("mapping", None, None, "block")] + list(rows) + [CLOSE]
    return plain_writing.stream_text([("document", True)] + list(rows) + [("over", False)])


class PlainPage:
    """A page as the document tells it: all texts and deeds in lists."""

    def __init__(self, text):
        self.done = [(None, text)]
        self.back = []
        self.rows = ["page " + in_quotes(text)]

    def text(self):
        return self.done[-1][1]

    def deed(self, what, *told):
        """None, or the class of the error and what it tells."""
        work = {"rename": renamed, "rewrite": rewritten, "drop": dropped, "put": put}[what]
        changes = outcome(work, self.text(), *told)
        if type(changes) is not list:
            return changes
        row = [what] + [str(part) for part in told]
        if what == "rewrite":
            row[-1] = in_quotes(told[-1])
        if what == "put":
            row[-1] = in_quotes(put_text(told[-1], read(self.text())[told[0]][0]))
            told = told[:-1] + (tuple(told[-1]),)
        self.done.append(((what,) + told, changed(self.text(), changes)))
        self.back = []
        self.rows.append(" ".join(row))
        return None

    def undo(self):
        if len(self.done) == 1:
            return False
        self.back.append(self.done.pop())
        self.rows.append("undo")
        return True

    def redo(self):
        if not self.back:
            return False
        self.done.append(self.back.pop())
        self.rows.append("redo")
        return True


def drawn_deed(chance, text):
    """A deed that may be done, or may not."""
    events = read(text)
    k = chance.randrange(-1, len(events) + 1)
    way = chance.random()
    if way < 0.2:
        anchored = [index for index, event in enumerate(events) if event[0] in ("scalar", "sequence", "mapping") and event[1] is not None]
        return "rename", chance.choice(anchored + [k]), chance.choice(["x", "y", "z", "a,b"])
    if way < 0.45:
        return "rewrite", k, chance.choice(["plain", "single", "double", "folded"]), chance.choice(plain_writing.VALUES)
    if way < 0.65:
        return "drop", k
    heads = [index for index, event in enumerate(events) if event[0] in ("sequence", "mapping")]
    k = chance.choice(heads + [k])
    kind, form = (events[k][0], events[k][3]) if k in heads else ("sequence", "block")
    return "put", k, chance.randrange(4), plain_writing.drawn_entry(chance, kind, form, chance.choice([0, 1, 2]))


class Pages(unittest.TestCase):
    def check_error(self, kind, told, work, *arguments):
        with self.assertRaises(kind) as caught:
            work(*arguments)
        self.assertEqual(list(vars(caught.exception).values()), [told])

    def check_same(self, page, other):
        """Two pages of which all that can be asked is the same, also what can be done again."""
        for _ in range(2):
            self.assertEqual(page.current(), other.current())
            self.assertEqual(page.past(), other.past())
            self.assertEqual(page.log(), other.log())
        again = 0
        while page.redo():
            self.assertIs(other.redo(), True)
            self.assertEqual(page.current(), other.current())
            again += 1
        self.assertIs(other.redo(), False)
        for _ in range(again):
            self.assertIs(page.undo(), True)
            self.assertIs(other.undo(), True)


class Deeds(Pages):
    def test_new_page(self):
        for text in ("", "a", TEXT, "--- |\n  a\n...\n"):
            page = Page(text)
            self.assertEqual(page.current(), text)
            self.assertEqual(page.past(), [])
            self.assertIs(page.undo(), False)
            self.assertIs(page.redo(), False)
            self.assertEqual(page.log(), "page " + in_quotes(text))

    def test_no_page(self):
        self.check_error(Refused, 5, Page, "a: b: c")
        self.check_error(Refused, 1, Page, "[")
        for thing in NO_TEXTS:
            self.check_error(Refused, -1, Page, thing)

    def test_deeds(self):
        page = Page(TEXT)
        self.assertIsNone(page.rename(2, "yy"))
        self.assertEqual(page.current(), "- &yy a\n- [*yy, b]\n- c: d\n")
        self.assertIsNone(page.rewrite(5, "double", "e\nf"))
        self.assertEqual(page.current(), "- &yy a\n- [*yy, \"e\\nf\"]\n- c: d\n")
        self.assertIsNone(page.put(7, 1, [A, B]))
        self.assertEqual(page.current(), "- &yy a\n- [*yy, \"e\\nf\"]\n- c: d\n  a: b\n")
        self.assertIsNone(page.drop(4))
        self.assertEqual(page.current(), "- &yy a\n- [ \"e\\nf\"]\n- c: d\n  a: b\n")
        self.assertIsNone(page.put(3, 0, (B,)))
        self.assertEqual(page.current(), "- &yy a\n- [ b, \"e\\nf\"]\n- c: d\n  a: b\n")
        self.assertEqual(page.past(), [("rename", 2, "yy"), ("rewrite", 5, "double", "e\nf"), ("put", 7, 1, (A, B)), ("drop", 4), ("put", 3, 0, (B,))])
        self.assertEqual(page.log().split("\n"), [
            'page "- &x a\\n- [*x, b]\\n- c: d\\n"', "rename 2 yy", 'rewrite 5 double "e\\nf"', 'put 7 1 "---\\na: b\\n"', "drop 4", 'put 3 0 "--- b\\n"'])

    def test_names_of_arguments(self):
        page = Page(text=TEXT)
        page.rename(k=2, name="y")
        page.rewrite(k=5, style="plain", value="e")
        page.drop(k=4)
        page.put(k=3, at=0, rows=[A])
        self.assertEqual(page.current(), "- &y a\n- [ a, e]\n- c: d\n")
        self.assertEqual(page.say(line="count"), "13")
        self.assertEqual(replayed(log=page.log()).current(), page.current())

    def test_undo_and_redo(self):
        page = Page("- a\n- b\n")
        page.drop(2)
        page.drop(2)
        self.assertEqual(page.current(), "[]\n")
        self.assertIs(page.undo(), True)
        self.assertEqual(page.current(), "- b\n")
        self.assertEqual(page.past(), [("drop", 2)])
        self.assertIs(page.undo(), True)
        self.assertEqual(page.current(), "- a\n- b\n")
        self.assertIs(page.undo(), False)
        self.assertEqual(page.past(), [])
        self.assertIs(page.redo(), True)
        self.assertEqual(page.current(), "- b\n")
        self.assertIs(page.redo(), True)
        self.assertEqual(page.current(), "[]\n")
        self.assertIs(page.redo(), False)
        self.assertEqual(page.past(), [("drop", 2), ("drop", 2)])
        self.assertEqual(page.log(), "page \"- a\\n- b\\n\"\ndrop 2\ndrop 2\nundo\nundo\nredo\nredo")

    def test_deed_behind_undo(self):
        page = Page("- a\n- b\n")
        page.drop(2)
        page.undo()
        page.drop(3)
        self.assertIs(page.redo(), False)
        self.assertEqual(page.current(), "- a\n")
        self.assertEqual(page.past(), [("drop", 3)])
        self.assertEqual(page.log().split("\n")[1:], ["drop 2", "undo", "drop 3"])

    def test_refused_deeds(self):
        """They change nothing; what was taken back can still be done again."""
        page = Page("- &x a\n- *x\n- {b: c}\n- *y\n")
        page.rewrite(2, "single", "d")
        page.drop(8)
        page.undo()
        told = page.current(), page.past(), page.log()
        deeds = [
            (NoAnchor, 3, page.rename, 3, None), (NoName, "a b", page.rename, 2, "a b"), (Captured, 25, page.rename, 2, "y"),
            (NoScalar, 3, page.rewrite, 3, None, None), (NoStyle, "style", page.rewrite, 2, "literal", None), (NoValue, None, page.rewrite, 2, "plain", None),
            (NoValue, "c,", page.rewrite, 6, "plain", "c,"), (NoScalar, 14, page.rewrite, 14, "plain", ""),
            (NoEntry, 6, page.drop, 6), (Needed, 11, page.drop, 2), (NoCollection, 0, page.put, 0, None, None), (NoPlace, -1, page.put, 1, -1, None),
            (NoEvents, -1, page.put, 1, 0, None), (NoEvents, 0, page.put, 4, 0, []), (NoEvents, 1, page.put, 4, 1, [A]),
            (Captured, 25, page.put, 1, 3, [("scalar", "y", None, "plain", "z")])]
        for kind, field, work, *arguments in deeds:
            self.check_error(kind, field, work, *arguments)
            self.assertEqual((page.current(), page.past(), page.log()), told)
        self.assertIs(page.redo(), True)
        self.assertIs(page.redo(), False)
        self.assertEqual(page.past(), [("rewrite", 2, "single", "d"), ("drop", 8)])
        other = Page("[a: b]")
        for work, *arguments in ((other.drop, 3), (other.put, 2, 0, [A, B])):
            self.check_error(Spoilt, arguments[0], work, *arguments)
        self.assertEqual(other.log(), "page \"[a: b]\"")

    def test_objects_of_all_kinds(self):
        page = Page(TEXT)
        for thing in strange.NO_WHOLE + strange.LISTS:
            for kind, work, arguments in ((NoAnchor, page.rename, ("y",)), (NoScalar, page.rewrite, ("plain", "a")), (NoEntry, page.drop, ()),
                                          (NoCollection, page.put, (0, [A]))):
                with self.assertRaises(kind) as caught:
                    work(thing, *arguments)
                self.assertIs(caught.exception.k, thing)
        for thing in NO_TEXTS:
            with self.assertRaises(NoName) as caught:
                page.rename(2, thing)
            self.assertIs(caught.exception.name, thing)
            self.check_error(NoStyle, "style", page.rewrite, 2, thing, "a")
            with self.assertRaises(NoValue) as caught:
                page.rewrite(2, "plain", thing)
            self.assertIs(caught.exception.thing, thing)
        for thing in strange.NO_LISTS:
            self.check_error(NoEvents, -1, page.put, 1, 0, thing)
        self.assertEqual((page.current(), page.log()), (TEXT, "page " + in_quotes(TEXT)))

    def test_rows_may_be_changed_later_on(self):
        page = Page("- a\n")
        rows = [("sequence", None, None, "flow"), A, CLOSE]
        page.put(1, 0, rows)
        rows[1] = B
        rows.append(B)
        past = page.past()
        self.assertEqual(past, [("put", 1, 0, (("sequence", None, None, "flow"), A, CLOSE))])
        past.append(None)
        past[0] = None
        self.assertEqual(page.past(), [("put", 1, 0, (("sequence", None, None, "flow"), A, CLOSE))])
        self.assertEqual(page.log(), "page \"- a\\n\"\nput 1 0 \"--- [a]\\n\"")
        self.assertEqual(replayed(page.log()).current(), "- [a]\n- a\n")

    def test_deeds_by_chance(self):
        chance = random.Random(60)
        held = 0
        for _ in range(300):
            text = events_text(plain_writing.drawn_rows(chance, 3, 1)) or TEXT
            page, other = Page(text), PlainPage(text)
            for _ in range(chance.randrange(1, 14)):
                way = chance.random()
                if way < 0.15:
                    self.assertIs(page.undo(), other.undo())
                elif way < 0.3:
                    self.assertIs(page.redo(), other.redo())
                else:
                    what, *told = drawn_deed(chance, page.current())
                    self.assertEqual(outcome(getattr(page, what), *told), other.deed(what, *told))
                self.assertEqual(page.current(), other.text())
                self.assertEqual(page.past(), [deed for deed, _ in other.done[1:]])
                self.assertEqual(page.log(), "\n".join(other.rows))
            again = replayed(page.log())
            self.check_same(page, again)
            self.assertEqual(again.past(), page.past())
            held += len(page.past())
        self.assertGreater(held, 250)

    def test_many_deeds(self):
        """Sixty deeds on a page of 3,000 signs, said, replayed, taken back and done again, in a short time."""
        text = "&x a: b\n" + "".join([f"k{at}: [*x, b, {{c: d}}]\n" for at in range(120)])
        self.assertLess(len(text), 3000)
        begun = time.perf_counter()
        page = Page(text)
        for at in range(15):
            page.rename(2, f"x{at}")
            page.rewrite(3, "double", f"b\n{at}")
            page.put(5, 1, [A])
            page.drop(7)
        self.assertEqual(len(page.past()), 60)
        again = replayed(page.log())
        self.assertEqual(again.current(), page.current())
        for _ in range(60):
            self.assertIs(page.undo(), True)
        self.assertEqual(page.current(), text)
        for _ in range(60):
            self.assertEqual(page.say("redo"), "yes")
        self.assertEqual(page.current(), again.current())
        self.assertLess(time.perf_counter() - begun, 10.0)


class Logs(Pages):
    def test_logs(self):
        page = replayed("page \"- a\\n- b\\n\"")
        self.assertEqual((page.current(), page.past()), ("- a\n- b\n", []))
        log = 'page "a: &x b"\nrename 3 y\nundo\nredo\nrewrite 3 single "\\\\ \\" \\t"\nput 1 0 "---\\nc:\\n"\nundo'
        page = replayed(log)
        self.assertEqual(page.log(), log)
        self.assertEqual(page.past(), [("rename", 3, "y"), ("rewrite", 3, "single", "\\ \" \t")])
        self.assertEqual(page.current(), "a: &y '\\ \" \t'")
        self.assertIs(page.redo(), True)
        self.assertEqual(page.current(), "c:\na: &y '\\ \" \t'")
        self.assertEqual(page.past()[-1], ("put", 1, 0, (("scalar", None, None, "plain", "c"), ("scalar", None, None, "plain", ""))))

    def test_what_a_log_keeps(self):
        """What can be done again, too, is that of the page that wrote the log."""
        page = Page("- a\n- b\n- c\n")
        page.drop(2)
        page.drop(2)
        page.drop(2)
        page.undo()
        page.undo()
        page.redo()
        page.undo()
        self.check_same(page, replayed(page.log()))
        other = replayed(page.log())
        self.assertEqual([other.redo(), other.redo(), other.redo()], [True, True, False])

    def test_rows_of_puts(self):
        """They are the text of one marked document; those for a mapping are a block mapping of the pair."""
        table = [("mapping", None, None, "flow"), A, B, CLOSE]
        block = [("mapping", "x", "!t", "block"), A, B, CLOSE]
        for text, k, rows, told in (("- a\n", 1, [A], "--- a\n"), ("[]", 1, table, "--- {a: b}\n"), ("- a\n", 1, block, "--- &x !t\na: b\n"),
                                    ("{}", 1, [A, B], "---\na: b\n"), ("a: b\n", 1, table + block, "---\n{a: b}: &x !t\n  a: b\n"),
                                    ("{a: b}", 1, [("scalar", None, None, "plain", "")] * 2, "---\n:\n"), ("a: b\n", 1, [("alias", "y"), A], "---\n*y : a\n"),
                                    ("- a\n", 1, [("scalar", None, None, "plain", "")], "---\n"), ("- a\n", 1, [("scalar", None, None, "literal", "a\n\n")], "--- |+\n a\n\n"),
                                    ("{}", 1, [("scalar", None, None, "plain", "--- a"), B], "---\n? --- a\n: b\n")):
            page = Page(text)
            page.put(k, 0, rows)
            self.assertEqual(put_text(rows, read(text)[k][0]), told)
            self.assertEqual(page.log().split("\n")[1], f"put {k} 0 " + in_quotes(told))
            self.check_same(page, replayed(page.log()))

    def test_no_text(self):
        for thing in NO_TEXTS:
            self.check_error(NoLog, -1, replayed, thing)

    def test_first_rows(self):
        for row in ("", "page", "page ", "page a", "page \"", "page \"a", "page a\"", "page \"a\" ", "page  \"a\"", " page \"a\"", "Page \"a\"", "page \"a\" \"b\"", "page\"a\"",
                    "page 'a'", "page \"[\"", "page \"a: b: c\"", "page \"a\\\"", "page \"\\a\"", "page \"\"\"", "page \"a\tb\"", "undo", "text", "drop 1", "# c",
                    "page \"- a\" drop 2", "page\t\"a\""):
            self.check_error(NoLog, 0, replayed, row)
            self.check_error(NoLog, 0, replayed, row + "\nundo\nno")
        self.assertEqual(replayed("page \"\"").current(), "")

    def test_rows_that_cannot_stand_there(self):
        good = ['page "- &x a\\n- [*x, b]\\n- c: d\\n"', "rename 2 y", 'rewrite 5 single "e"', "undo", "redo", "drop 4", 'put 6 0 "---\\nf: g\\n"', "undo"]
        self.assertEqual(replayed("\n".join(good)).log(), "\n".join(good))
        wrong = ["", " ", "#", "page \"a\"", "text", "count", "event 1", "say", "undo ", " undo", "undo 1", "Undo", "redo x", "drop", "drop ", "drop x", "drop -1", "drop +4",
                 "drop 04", "drop 00", "drop 4 ", "drop  4", "drop\t4", "drop 4 4", "drop 4.0", "drop 0", "drop 1", "drop 999999999", "drop 1000000000", "drop 0000000004",
                 "rename 2", "rename 2 ", "rename 2 a b", "rename  2 y", "rename 2  y", "rename 3 y", "rename 02 y", "rename y 2", "rename 2 a,b", "rename 1234567890 y",
                 "rewrite 5", "rewrite 5 plain", "rewrite 5 plain ", "rewrite 5 plain e", "rewrite 5 plain 'e'", "rewrite 5 plain \"e", "rewrite 5 plain \"e\" ",
                 "rewrite 5 plain \"e\"\"", "rewrite 5 plain \"\\e\"", "rewrite 5 plain \"\\\"", "rewrite 5 literal \"e\"", "rewrite 5 plain \"a,b\"", "rewrite 5  \"e\"",
                 "rewrite 3 plain \"e\"", "rewrite 05 plain \"e\"", "rewrite 5 plain  \"e\"", "rewrite 5 plain \"\"", "rewrite plain 5 \"e\"",
                 "put 1 0", "put 1 0 ", "put 1 \"--- a\\n\"", "put 1 0 --- a", "put 1 00 \"--- a\\n\"", "put 1 4 \"--- a\\n\"", "put 2 0 \"--- a\\n\"", "put 0 0 \"--- a\\n\"",
                 "put 1 0  \"--- a\\n\"", "put 1 0 \"--- a\\n\" ", "put 01 0 \"--- a\\n\"", "put 99 0 \"--- a\\n\"", "put 1 1234567890 \"--- a\\n\"",
                 "put 1 0 \"a\\n\"", "put 1 0 \"--- a\"", "put 1 0 \"---  a\\n\"", "put 1 0 \"---\\na\\n\"", "put 1 0 \"--- a\\n...\\n\"", "put 1 0 \"\"", "put 1 0 \"---\"",
                 "put 1 0 \"--- a\\n--- b\\n\"", "put 1 0 \"--- a # c\\n\"", "put 1 0 \"[\"", "put 1 0 \"---\\n- a\\n-  b\\n\"", "put 1 0 \"--- a:: b\\n\"", "put 1 0 \"---\\na:: b\\n\"",
                 "put 3 0 \"---\\n\"", "put 3 0 \"---\\n- a\\n\"", "put 3 0 \"--- |\\n a\\n\"", "put 3 0 \"--- a\\n\\n b\\n\"", "put 7 0 \"--- a\\n\"", "put 7 0 \"--- {a: b}\\n\"",
                 "put 7 0 \"--- &x\\na: b\\n\"", "put 7 0 \"---\\na: b\\nc: d\\n\"", "put 7 0 \"---\\n- a\\n\"", "put 7 0 \"---\\n- a\\n- b\\n\"", "put 7 0 \"a: b\\n\"",
                 "put 7 0 \"---\\n? a\\n: b\\n\"", "put 7 0 \"---\\n\"", "put 7 0 \"\""]
        for index in range(1, len(good) + 1):
            begin = good[:index]
            for row in wrong:
                self.check_error(NoLog, index, replayed, "\n".join(begin + [row]))
                self.check_error(NoLog, index, replayed, "\n".join(begin + [row] + good[index:]))
        self.check_error(NoLog, 1, replayed, good[0] + "\nundo")
        self.check_error(NoLog, 1, replayed, good[0] + "\nredo")
        self.check_error(NoLog, 2, replayed, good[0] + "\ndrop 4\nredo")
        self.check_error(NoLog, 3, replayed, good[0] + "\ndrop 4\nundo\nundo")
        self.check_error(NoLog, 4, replayed, good[0] + "\ndrop 4\nundo\nrename 2 y\nredo")
        self.check_error(NoLog, 1, replayed, good[0] + "\n")
        self.check_error(NoLog, len(good), replayed, "\n".join(good) + "\n")


class Sayings(Pages):
    def check_no_line(self, page, line):
        with self.assertRaises(NoLine) as caught:
            page.say(line)
        self.assertIs(caught.exception.line, line)

    def test_deeds(self):
        page = Page(TEXT)
        self.assertEqual(page.say("rename 2 y"), "ok")
        self.assertEqual(page.say("rewrite 5 double \"a\\n\\t\\\\\\\"\""), "ok")
        self.assertEqual(page.current(), "- &y a\n- [*y, \"a\\n\t\\\\\\\"\"]\n- c: d\n")
        self.assertEqual(page.say("put 1 1 \"---\\n\""), "ok")
        self.assertEqual(page.say("put 8 1 \"---\\ne:\\n\""), "ok")
        self.assertEqual(page.say("drop 3"), "ok")
        self.assertEqual(page.current(), "- &y a\n- [*y, \"a\\n\t\\\\\\\"\"]\n- c: d\n  e:\n")
        self.assertEqual(page.say("undo"), "yes")
        self.assertEqual(page.say("redo"), "yes")
        self.assertEqual(page.say("redo"), "no")
        self.assertEqual([page.say("undo") for _ in range(6)], ["yes"] * 5 + ["no"])
        self.assertEqual(page.current(), TEXT)
        self.assertEqual(page.log().split("\n")[1:], ["rename 2 y", "rewrite 5 double \"a\\n\\t\\\\\\\"\"", "put 1 1 \"---\\n\"", "put 8 1 \"---\\ne:\\n\"", "drop 3", "undo", "redo"] + ["undo"] * 5)

    def test_refused_deeds(self):
        page = Page(TEXT)
        page.drop(3)
        page.undo()
        told = page.current(), page.past(), page.log()
        for line in ("rename 0 y", "rename 2 a,b", "rename 2 [", "rename 999999999 y", "rewrite 1 plain \"a\"", "rewrite 2 literal \"a\"", "rewrite 2 x \"a\"",
                     "rewrite 2 \" \"a\"", "rewrite 2 plain \"a: b\"", "rewrite 2 plain \"\\n\"", "drop 0", "drop 2", "drop 99", "put 0 0 \"--- a\\n\"", "put 1 9 \"--- a\\n\"",
                     "put 1 0 \"\"", "put 1 0 \"--- a\"", "put 1 0 \"a\\n\"", "put 1 0 \"[\"", "put 1 0 \"---  a\\n\"", "put 1 0 \"--- a\\n...\\n\"", "put 7 0 \"--- a\\n\"",
                     "put 7 0 \"---\\na: b\\nc: d\\n\"", "put 7 0 \"--- {a: b}\\n\"", "put 3 0 \"---\\n- a\\n\"", "put 3 0 \"---\\n\"", "put 1 0 \"--- &x a\\n--- b\\n\"",
                     "put 999999999 0 \"--- a\\n\"", "put 13 0 \"--- a\\n\"", "put 12 0 \"--- a\\n\"", "rename 13 y", "drop 13", "rewrite 13 plain \"a\"", "put 1 1 \"--- &x a\\n\"", "put 99 0 \"whatever\""):
            self.assertEqual(page.say(line), "refused", line)
            self.assertEqual((page.current(), page.past(), page.log()), told)
        self.assertEqual(page.say("redo"), "yes")

    def test_words(self):
        """Any word without blanks may stand for NAME and STYLE, and any text in quotes for TEXT."""
        page = Page("&x a")
        for name in ("y", "\"", "#", ":", "a\\b", "&*!", "1", "rename"):
            self.assertEqual(page.say("rename 1 " + name), "ok")
            self.assertEqual(read(page.current())[1][1], name)
        for name in ("a\tb", "\t", ",", "{}", "[a]"):
            self.assertEqual(page.say("rename 1 " + name), "refused")
            self.assertEqual(page.say("rewrite 1 " + name + " \"a\""), "refused")
        for name in ("", "a b", " a", "a ", "a\nb", "\n"):
            self.check_no_line(page, "rename 1 " + name)
            self.check_no_line(page, "rewrite 1 " + name + " \"a\"")

    def test_questions(self):
        page = Page("--- &x !t\n- 'a\\'\n- [*x , \"\\\"\\n\\t\"]\n...\n")
        self.assertEqual(page.say("text"), "\"--- &x !t\\n- 'a\\\\'\\n- [*x , \\\"\\\\\\\"\\\\n\\\\t\\\"]\\n...\\n\"")
        self.assertEqual(page.say("count"), "9")
        self.assertEqual([page.say(f"event {k}") for k in range(9)], [
            '"document" yes', '"sequence" "x" "!t" "block" 4', '"scalar" none none "single" "a\\\\" 12 16', '"sequence" none none "flow" 19', '"alias" "x" 20 22',
            '"scalar" none none "double" "\\"\\n\\t" 25 33', '"close" 34', '"close" 34', '"over" yes'])
        page = Page("a")
        self.assertEqual([page.say(f"event {k}") for k in range(3)], ['"document" no', '"scalar" none none "plain" "a" 0 1', '"over" no'])
        self.assertEqual((Page("").say("count"), Page("").say("text"), Page("\"\t\"").say("text")), ("0", '""', '"\\"\\t\\""'))
        self.assertEqual(page.log(), 'page "a"')

    def test_questions_by_chance(self):
        chance = random.Random(61)
        words = {None: "none", True: "yes", False: "no"}
        for _ in range(200):
            text = events_text(plain_writing.drawn_rows(chance, 2, 2))
            page = Page(text)
            events = read(text)
            self.assertEqual(page.say("text"), in_quotes(text))
            self.assertEqual(page.say("count"), str(len(events)))
            for k, event in enumerate(events):
                parts = [in_quotes(part) if type(part) is str else str(part) if type(part) is int else words[part] for part in event]
                self.assertEqual(page.say(f"event {k}"), " ".join(parts))
            self.check_no_line(page, f"event {len(events)}")

    def test_all_signs_in_quotes(self):
        signs = "".join([chr(sign) for sign in range(32, 127) if chr(sign) != "%"]) + "\t\n\\n\\t\\\""
        page = Page("a: b")
        page.rewrite(3, "double", signs)
        self.assertEqual(page.log(), "page \"a: b\"\nrewrite 3 double " + in_quotes(signs))
        self.assertEqual(Page("a: b").say("rewrite 3 double " + in_quotes(signs)), "ok")
        self.assertEqual(replayed(page.log()).past(), [("rewrite", 3, "double", signs)])
        self.assertEqual(page.say("text"), in_quotes(page.current()))

    def test_no_lines(self):
        page = Page(TEXT)
        page.drop(3)
        told = page.current(), page.past(), page.log()
        for line in ("", " ", "\n", "say", "page \"a\"", "page", "Text", "text ", " text", "text 1", "text\n", "count 1", "count ", "event", "event ", "event -1", "event +1", "event 01",
                     "event 00", "event x", "event 1 ", "event  1", "event 1 2", "event 1.0", "event 11", "event 999999999", "event 1000000000", "event 0000000001", "event\t1",
                     "undo ", "undo 1", "undo\n", "UNDO", "redo 1", "drop", "drop ", "drop x", "drop 04", "drop 1000000000", "drop 2\n", "drop 2 3", "rename 2", "rename 2 ",
                     "rename x y", "rename 02 y", "rename 2 y z", "rename 1234567890 y", "rewrite 2 plain", "rewrite 2 plain a", "rewrite 2 plain \"", "rewrite 2 plain \"a",
                     "rewrite 2 plain a\"", "rewrite 2 plain \"a\" ", "rewrite 2 plain \"\\a\"", "rewrite 2 plain \"\\\"", "rewrite 2 plain \"a\"b\"", "rewrite 2 plain \"\"\"",
                     "rewrite 2 plain \"a\nb\"", "rewrite 2 plain \"a\tb\"", "rewrite 2 \"a\"", "put 1 0", "put 1 \"--- a\\n\"", "put 1 0 --- a", "put 1 0 \"--- a\n\"",
                     "put 1 00 \"--- a\\n\"", "put 1 0 0 \"--- a\\n\"", "put 1 1000000000 \"--- a\\n\"", "past", "log", "current", "replay", "#", "rename\t2 y", "rename 2\ty",
                     "undo\nundo", "text\ntext"):
            self.check_no_line(page, line)
            self.assertEqual((page.current(), page.past(), page.log()), told)
        for thing in NO_TEXTS:
            self.check_no_line(page, thing)
        self.assertEqual((page.current(), page.past(), page.log()), told)

    def test_said_and_done(self):
        """Deeds that are said are those that are done, and lead to the same log."""
        chance = random.Random(62)
        for _ in range(60):
            text = events_text(plain_writing.drawn_rows(chance, 3, 1)) or TEXT
            page, other = Page(text), Page(text)
            for _ in range(10):
                what, *told = drawn_deed(chance, page.current())
                if what == "put" and told[0] >= 0 and read(page.current())[min(told[0], len(read(page.current())) - 1)][0] not in ("sequence", "mapping"):
                    continue
                if told[0] < 0:
                    continue
                done = outcome(getattr(page, what), *told)
                words = [what] + [str(part) for part in told]
                if what == "rewrite":
                    words[-1] = in_quotes(told[-1])
                if what == "put":
                    words[-1] = in_quotes(put_text(told[-1], read(other.current())[told[0]][0])) if told[0] < len(read(other.current())) else '""'
                self.assertEqual(other.say(" ".join(words)), "ok" if done is None else "refused")
                self.assertEqual(page.log(), other.log())
            self.check_same(page, other)


if __name__ == "__main__":
    unittest.main()
