"""[L1], [L2], [L3]: a shell, line by line."""

import random
import unittest

from stillrounds.booktexts import book_text, world_text
from stillrounds.knownbooks import known_names
from stillrounds.safety import is_safe
from stillrounds.shells import Shell
from tests.bookkinds import WORLDS, some_books
from tests.helpers import any_values, changed_texts
from tests.model import random_book
from tests.ownshell import OwnShell

ASKS = ("letters", "tour", "before", "said", "still", "open", "run", "text", "safe", "falls")
LOOKS = ASKS + tuple(f"machine {i}" for i in range(7))


def looks(shell):
    """What all lines that ask are answered by, and whether something can be undone or done again."""
    return [shell.say(line) for line in LOOKS]


def lines_for(draw, many, own):
    """A line of whichever kind; the more often a deed that can be done."""
    kind = draw.random()
    if own.own is not None and kind < 0.55:
        deeds = own.own.course().deeds()
        if deeds:
            return " ".join(str(item) for item in draw.choice(deeds))
    if kind < 0.62:
        return draw.choice(("undo", "redo"))
    if kind < 0.7:
        machines = [str(draw.randrange(10)) for _ in range(2)]
        word = draw.choice(("send", "get", "rest", "visit"))
        return " ".join([word] + machines[:1 if word in ("rest", "visit") else 2])
    if kind < 0.88:
        return draw.choice(LOOKS)
    if kind < 0.94:
        return "start " + "".join(draw.choice("wr") for _ in range(many if draw.random() < 0.9 else many - 1))
    if kind < 0.96:
        return f"known {many} {draw.choice(known_names())}"
    if kind < 0.98:
        return "book " + book_text(random_book(draw, many))
    return "world " + world_text(draw.choice(WORLDS))


class ShellCase(unittest.TestCase):
    def said(self, shell, own, line):
        told = shell.say(line)
        self.assertEqual(repr(told), repr(own.say(line)), line)
        return told

    def ready(self, many=2, name="early sum", world="slow, alike", signs="wr", lines=()):
        shell, own = Shell(), OwnShell()
        for line in (f"known {many} {name}", "world " + world, "start " + signs) + tuple(lines):
            self.said(shell, own, line)
        return shell, own

    def same(self, shell, own):
        self.assertEqual(looks(shell), [own.say(line) for line in LOOKS])


class Lines(ShellCase):
    def test_any_lines_in_any_order(self):
        kinds = {}
        for seed in range(160):
            draw = random.Random(seed)
            many = 2 + seed % 5
            shell, own = Shell(), OwnShell()
            if seed % 4:
                for line in ("book " + book_text(random_book(draw, many)), "world " + world_text(WORLDS[seed // 5 % 4]),
                             "start " + "".join(draw.choice("wwr") for _ in range(many))):
                    self.said(shell, own, line)
            for _ in range(60):
                line = lines_for(draw, many, own)
                told = self.said(shell, own, line)
                kind = told.split(" ")[0] if told.startswith("version") else told
                kinds[(line.split(" ")[0], kind if told.startswith(("no ", "error", "version")) else "told")] = True
        for word in ("send", "get", "rest", "visit"):
            self.assertTrue({(word, "version"), (word, "error Refused"), (word, "no run")} <= set(kinds))
        for word in ("undo", "redo"):
            self.assertTrue({(word, "version"), (word, "no run")} <= set(kinds))
        self.assertTrue({("undo", "error NothingToUndo"), ("redo", "error NothingToRedo")} <= set(kinds))
        self.assertTrue({("start", "error Unfit"), ("machine", "error Unfit"), ("start", "no book")} <= set(kinds))
        for word in LOOKS:
            self.assertIn((word.split(" ")[0], "told"), kinds)

    def test_books(self):
        shell, own = Shell(), OwnShell()
        for book in some_books():
            self.assertEqual(self.said(shell, own, "book " + book_text(book)), str(len(book[1])))
            self.assertEqual(self.said(shell, own, "text"), book_text(book))
        for text in changed_texts("tests G1=S1\nwaits\nany time: got lower", " \nxw"):
            self.said(shell, own, "book " + text)
            self.same(shell, own)
        for text in ("", " ", "tests none", "tests none\nwaits", "tests none" + "\nwaits" * 7, "book", "\n"):
            told = self.said(shell, own, "book " + text)
            self.assertTrue(told.startswith("error Bad"), text)
        self.same(shell, own)

    def test_known_books(self):
        shell, own = Shell(), OwnShell()
        for figure in "0123456789":
            for name in known_names() + ("", " ", "colour", "Colours", "colours ", " colours", "four  counts", "\n"):
                told = self.said(shell, own, f"known {figure} {name}")
                right = name in known_names() and figure in "23456"
                self.assertEqual(told, figure if right else "error Unfit")
                self.same(shell, own)

    def test_worlds(self):
        shell, own = Shell(), OwnShell()
        self.assertEqual(self.said(shell, own, "safe"), "no book")
        for world in WORLDS:
            self.assertEqual(self.said(shell, own, "world " + world_text(world)), world_text(world))
        for text in changed_texts("slow, alike", ", \nsa") + ["", " ", "slow", "alike, slow", "at once, alike, anew"]:
            self.said(shell, own, "world " + text)
        for world in WORLDS:
            self.said(shell, own, "world " + world_text(world))
            for book in some_books()[::3]:
                self.said(shell, own, "book " + book_text(book))
                self.said(shell, own, "safe")
                self.said(shell, own, "falls")

    def test_starts(self):
        for many in range(2, 7):
            shell, own = Shell(), OwnShell()
            for line in ("start wr", f"known {many} four counts", "start wr", "world slow, alike"):
                self.said(shell, own, line)
            for length in range(1, 9):
                for signs in ("w" * length, "r" * length, ("wr" * 5)[:length]):
                    told = self.said(shell, own, "start " + signs)
                    self.assertEqual(told, "begun" if length == many else "error Unfit")
                    self.same(shell, own)
            # A new keeper takes the place of the one before.
            self.said(shell, own, "start " + "w" * many)
            self.said(shell, own, "rest 0")
            self.said(shell, own, "start " + "w" * many)
            self.assertEqual(self.said(shell, own, "run"), "start " + "w" * many)
            self.assertEqual(self.said(shell, own, "redo"), "error NothingToRedo")

    def test_what_is_told_of_a_keeper(self):
        shell, own = self.ready(3, "colours", "slow, anew", "www")
        for line in ("send 0 1", "send 0 1", "send 2 0", "send 1 2", "get 2 0", "rest 2", "visit 2", "rest 1", "visit 1",
                     "rest 0", "visit 0", "get 0 1", "send 1 0", "get 0 1", "get 1 2", "rest 1", "visit 1", "get 1 0",
                     "rest 0", "rest 2", "visit 0", "visit 2", "visit 1", "visit 2", "visit 0", "visit 0"):
            self.said(shell, own, line)
            self.same(shell, own)
        self.assertEqual(self.said(shell, own, "said"), "right")

    def test_sixty_deeds(self):
        shell, own = self.ready()
        for at in range(60):
            self.assertEqual(self.said(shell, own, "send 0 1"), f"version {at + 1}")
        self.assertEqual(self.said(shell, own, "send 0 1"), "error TooManyEdits")
        self.assertEqual(self.said(shell, own, "visit 0"), "error Refused")
        self.assertEqual(self.said(shell, own, "letters"), "0>1 60")
        self.assertEqual(self.said(shell, own, "undo"), "version 59")
        self.assertEqual(self.said(shell, own, "rest 0"), "version 60")
        self.same(shell, own)

    def test_by_name_and_by_place(self):
        shell = Shell()
        self.assertEqual((shell.say(line="known 2 colours"), shell.say("text")), ("2", shell.say(line="text")))


class Lacking(ShellCase):
    NEEDS = {
        "book and world": ("start wr", "start w", "safe", "falls"),
        "book": ("text",),
        "keeper": ("send 0 1", "get 0 1", "rest 0", "visit 0", "send 9 9", "undo", "redo", "machine 0", "machine 9",
                   "letters", "tour", "before", "said", "still", "open", "run"),
    }

    def test_each_line_with_and_without_book_world_and_keeper(self):
        for ahead in ((), ("known 2 colours",), ("world at once, anew",), ("known 2 colours", "world slow, alike"),
                      ("known 2 colours", "world slow, alike", "start ww")):
            has_book, has_world = any("known" in line for line in ahead), any("world" in line for line in ahead)
            for need, lines in self.NEEDS.items():
                for line in lines:
                    shell, own = Shell(), OwnShell()
                    for each in ahead:
                        self.said(shell, own, each)
                    told = self.said(shell, own, line)
                    if need != "keeper" and not has_book:
                        self.assertEqual(told, "no book")
                    elif need == "book and world" and not has_world:
                        self.assertEqual(told, "no world")
                    elif need == "keeper" and len(ahead) < 3:
                        self.assertEqual(told, "no run")
                    else:
                        self.assertFalse(told.startswith("no ") or told == "what", (ahead, line, told))

    def test_book_and_world_take_the_keeper_away(self):
        for line in ("book tests none\nwaits\nwaits", "known 2 early sum", "world slow, alike", "world at once, anew"):
            shell, own = self.ready(lines=("rest 0",))
            self.assertEqual(self.said(shell, own, "said"), "no")
            self.said(shell, own, line)
            for asked in self.NEEDS["keeper"]:
                self.assertEqual(self.said(shell, own, asked), "no run")
            self.assertFalse(self.said(shell, own, "safe").startswith("no "))
            self.assertEqual(self.said(shell, own, "start rr"), "begun")
            self.assertEqual(self.said(shell, own, "run"), "start rr")

    def test_what_fails_takes_nothing_away(self):
        for line in ("book tests none\nwaits", "book tests", "book ", "known 2 colour", "known 7 colours", "known 2 ",
                     "world slow", "world ", "world slow,alike", "start w", "start wrw", "book", "known 2", "world"):
            shell, own = self.ready(lines=("rest 0", "visit 0", "undo"))
            before = looks(shell)
            self.said(shell, own, line)
            self.assertEqual(looks(shell), before)
            self.assertEqual(self.said(shell, own, "redo"), "version 2")
            self.assertEqual(self.said(shell, own, "run"), "start wr\nrest 0\nvisit 0")


class What(ShellCase):
    def test_no_strings(self):
        for shell, own in ((Shell(), OwnShell()), self.ready()):
            before = looks(shell)
            for value in any_values() + [["undo"], ("undo",), {"undo": 0}, shell]:
                if type(value) is str and value == "start wr":
                    continue
                ahead = repr(value)
                told = shell.say(value)
                self.assertEqual(told, "what")
                self.assertEqual(repr(value), ahead)
            self.assertEqual(looks(shell), before)

    def test_no_lines(self):
        odd = [
            "", " ", "\n", "what", "none", "book", "world", "known", "start", "send", "get", "rest", "visit", "machine",
            "known 2", "known2 colours", "known x colours", "known 22 colours", "known  2 colours", "known -2 colours",
            "start ", "start wx", "start W", "start w r", "start wr ", " start wr", "start  wr", "start wr\n", "startwr",
            "send 0", "send 0 ", "send  0 1", "send 0  1", "send 0 1 ", "send 0 1 2", "send 0 10", "send 01 0", "send a b",
            "send 0,1", "get 0", "get 0 1 2", "get 0 x", "rest", "rest ", "rest  0", "rest 0 ", "rest 0 1", "rest 00",
            "rest x", "rest 0\n", "\nrest 0", "rest\n0", "visit 10", "visit +1", "visit 0 0", "visit -1", "undo ",
            " undo", "undo 1", "Undo", "UNDO", "undo\n", "redo\n", "redo 0", "machine", "machine ", "machine 00",
            "machine x", "machine 0 1", "machine  0", "letters ", "Letters", "letter", "tour\n", "tours", "before 1",
            "said ", "Said", "still?", "open ", "opened", "run ", "run\n", "runs", "text ", "texts", "safe ", "falls ",
            "fall", "Safe", "Book tests none\nwaits\nwaits", "World slow, alike", "Known 2 colours", "Send 0 1",
            "Visit 0", "books none", "worlds slow, alike", "do rest 0", "say", "help", "quit", "version", "twin", "do",
        ]
        for lines in ((), ("known 2 colours",), ("known 2 colours", "world slow, alike", "start ww", "send 0 1")):
            shell, own = Shell(), OwnShell()
            for line in lines:
                self.said(shell, own, line)
            before = looks(shell)
            for line in odd:
                self.assertEqual(self.said(shell, own, line), "what", line)
                self.assertEqual(looks(shell), before)

    def test_lines_changed_sign_by_sign(self):
        shell, own = self.ready(lines=("send 0 1",))
        for line in ("known 2 colours", "world slow, alike", "start wr", "send 0 1", "rest 0", "machine 1") + ASKS:
            for text in changed_texts(line, " \n07wrS"):
                told = self.said(shell, own, text)
                if own.own is None:
                    for again in ("known 2 early sum", "world slow, alike", "start wr", "send 0 1"):
                        self.said(shell, own, again)
                self.assertIsInstance(told, str)

    def test_machines_that_are_not_there(self):
        for many in range(2, 7):
            shell, own = self.ready(many, "sum and colours", "at once, alike", "w" * many)
            for figure in range(10):
                told = self.said(shell, own, f"machine {figure}")
                self.assertEqual(told, "works 0 0" if figure < many else "error Unfit")
                for line in (f"rest {figure}", f"visit {figure}", f"send {figure} 0", f"send 0 {figure}",
                             f"get {figure} {figure}"):
                    if figure >= many or line.startswith("get") or line == "send 0 0":
                        self.assertEqual(self.said(shell, own, line), "error Refused")


class Holds(ShellCase):
    def test_what_is_refused_or_asked_changes_nothing(self):
        for seed in range(60):
            draw, many = random.Random(1000 + seed), 2 + seed % 5
            shell, own = self.ready(many, draw.choice(known_names()), world_text(WORLDS[seed % 4]), "w" * many)
            back = 0
            for _ in range(50):
                line = lines_for(draw, many, own)
                before = looks(shell)
                told = self.said(shell, own, line)
                if told.startswith(("what", "no ", "error ")) or line in LOOKS:
                    self.assertEqual(looks(shell), before)
                    back += 1
            self.assertGreater(back, 0)

    def test_a_run_told_anew(self):
        for seed in range(80):
            draw, many = random.Random(2000 + seed), 2 + seed % 5
            shell, own = Shell(), OwnShell()
            begun = ["book " + book_text(random_book(draw, many)), "world " + world_text(WORLDS[seed % 4])]
            for line in begun + ["start " + "w" * many]:
                self.said(shell, own, line)
            for _ in range(50):
                if own.own.course().deeds():
                    self.said(shell, own, draw.choice(("undo", "redo") + tuple(
                        " ".join(str(item) for item in deed) for deed in own.own.course().deeds() * 2)))
            other = Shell()
            for line in begun + shell.say("run").split("\n"):
                told = other.say(line)
                self.assertFalse(told.startswith(("what", "no ", "error")))
            for line in ("letters", "tour", "before", "said", "run", "still", "open") + tuple(
                    f"machine {i}" for i in range(many)):
                self.assertEqual(other.say(line), shell.say(line))

    def test_equal_lines_get_equal_answers(self):
        for seed in range(20):
            draw, many = random.Random(3000 + seed), 2 + seed % 5
            shell, other, own = Shell(), Shell(), OwnShell()
            for _ in range(60):
                line = lines_for(draw, many, own)
                self.assertEqual(self.said(shell, own, line), other.say(line))

    def test_safe_runs_are_never_early(self):
        early = {}
        for seed in range(400):
            draw, many = random.Random(4000 + seed), 2 + seed % 2
            book = random_book(draw, many)
            world = WORLDS[seed % 4]
            shell, own = Shell(), OwnShell()
            for line in ("book " + book_text(book), "world " + world_text(world), "start " + "w" * many):
                shell.say(line)
            self.assertEqual(shell.say("safe"), "yes" if is_safe(book, world) else "no")
            for _ in range(60):
                can = shell.say("open").split(", ")
                calm = [line for line in can if line.startswith(("visit", "rest"))]
                shell.say(draw.choice(calm if calm and draw.random() < 0.6 else can))
            early[(shell.say("safe"), shell.say("said"))] = True
        self.assertIn(("no", "early"), early)
        self.assertNotIn(("yes", "early"), early)
        self.assertIn(("yes", "right"), early)


if __name__ == "__main__":
    unittest.main()
