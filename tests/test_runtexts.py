"""[B6], [B7]: runs as texts, and back."""

import unittest
from itertools import product

from stillrounds.errors import BadText
from stillrounds.runtexts import read_run, run_text
from tests.helpers import CallCase, any_values, changed_texts, outcome
from tests.model import random_runs

# What the lines of texts are, built here from what the document tells, and not by the package.
START_LINES = {
    "start " + "".join(signs): tuple(sign == "w" for sign in signs)
    for many in range(2, 7) for signs in product("rw", repeat=many)
}
DEED_LINES = {f"{word} {i}": (word, i) for word in ("rest", "visit") for i in range(6)}
DEED_LINES.update({
    f"{word} {i} {j}": (word, i, j) for word in ("send", "get") for i in range(6) for j in range(6) if i != j
})
SIGNS = (" ", "0", "1", "6", "w", "\n", "-", "+", "_", "\t", "\r")


def expected_run(value):
    """What read_run is to do: an error, or the run."""
    if type(value) is not str:
        return BadText(0)
    lines = value.split("\n")
    if lines[0] not in START_LINES:
        return BadText(0)
    for number, line in enumerate(lines):
        if number > 0 and (line not in DEED_LINES or number == 401):
            return BadText(number)
    return (START_LINES[lines[0]], tuple(DEED_LINES[line] for line in lines[1:]))


class RunText(CallCase):
    def test_starts(self):
        for line, works in START_LINES.items():
            self.tells(line, run_text, works=works, deeds=())

    def test_deeds(self):
        for line, deed in DEED_LINES.items():
            self.tells("start wr\n" + line, run_text, works=(True, False), deeds=(deed,))
        deeds = tuple(DEED_LINES.values())
        self.tells("\n".join(["start rrw"] + list(DEED_LINES)), run_text, works=(False, False, True), deeds=deeds)


class ThereAndBack(CallCase):
    def test_runs(self):
        for _, _, works, deeds, _ in random_runs(1984, 80, 30):
            text = run_text(works, deeds)
            self.assertTrue(text.startswith("start "))
            self.tells((works, deeds), read_run, value=text)

    def test_four_hundred_deeds_and_one_more(self):
        deeds = (tuple(DEED_LINES.values()) * 6)[:400]
        text = run_text((True, False), deeds)
        self.tells(((True, False), deeds), read_run, value=text)
        for more in ("rest 0", "visit 0", "", "rest", "start wr", "rest 0\nrest 0", "rest 0\n"):
            self.raises(BadText(401), read_run, value=text + "\n" + more)
        # A wrong line ahead of that is told first.
        self.raises(BadText(400), read_run, value="\n".join(text.split("\n")[:400] + ["rest 9", "rest 0"]))
        self.raises(BadText(0), read_run, value="s" + text + "\nrest 0")


class ReadRun(CallCase):
    def reads(self, value):
        self.raises_or_tells(expected_run(value), read_run, value=value)

    def test_every_line(self):
        for line in START_LINES:
            self.reads(line)
        for line in DEED_LINES:
            self.reads("start rr\n" + line)
            self.reads("start rrwwrr\nrest 0\n" + line + "\n" + line)

    def test_values_of_all_kinds(self):
        for value in any_values():
            self.reads(value)
            if type(value) is str:
                self.raises(BadText(1), read_run, value="start wr\n" + value)
        for value in (((True, False), ()), ["start wr"], ("start wr", "rest 0"), ""):
            self.raises(BadText(0), read_run, value=value)

    def test_starts_that_are_none(self):
        lines = (
            "start w", "start ", "start", "start wrwrwrw", "start wwwwwww", "start w r", "start  wr", "start wr ",
            " start wr", "Start wr", "start WR", "start wx", "start 10", "startwr", "wr", "", "start w,r", "start TF",
            "starts wr", "start wr wr", "start: wr", "start wr\t", "start wr\r", "rest 0", "start\nwr",
        )
        for line in lines:
            self.raises(BadText(0), read_run, value=line)
            self.raises(BadText(0), read_run, value=line + "\nrest 9")

    def test_deeds_that_are_none(self):
        lines = (
            "", " ", "send", "send 0", "send 0 0", "send 5 5", "get 3 3", "send 0 1 2", "get 0", "get", "rest", "rest 0 1",
            "visit", "visit 0 1", "visit 6", "visit 7", "rest 10", "rest 00", "rest 01", "rest -1", "rest +1", "rest 1.",
            "rest a", "rest None", "rest True", "rest  1", " rest 1", "rest 1 ", "rest 1\t", "rest\t1", "rest 1\r",
            "Rest 1", "REST 1", "send 0  1", "send 0,1", "send 01", "send 6 0", "send 0 6", "get 6 0", "get 0 -1",
            "sent 0 1", "got 0 1", "0 1", "start wr", "send 0 ", "rest ", "rest 1_0", "(\"rest\", 1)", "wait 1", "1 rest",
            "visit 999999999999999999999", "send 0 1 ", "send 0 one", "rest 0 ",
        )
        for line in lines:
            self.raises(BadText(1), read_run, value="start wr\n" + line)
            self.raises(BadText(3), read_run, value="start wr\nrest 0\nsend 5 0\n" + line + "\nrest 9")

    def test_line_feeds(self):
        text = "start wr\nsend 0 1\nrest 0"
        self.raises(BadText(3), read_run, value=text + "\n")
        self.raises(BadText(3), read_run, value=text + "\n\n")
        self.raises(BadText(0), read_run, value="\n" + text)
        self.raises(BadText(1), read_run, value="start wr\n\nsend 0 1")
        self.raises(BadText(1), read_run, value="start wr\n")
        self.raises(BadText(0), read_run, value=text.replace("\n", "\r\n"))
        self.raises(BadText(0), read_run, value=text.replace("\n", " "))

    def test_texts_a_little_changed(self):
        right = 0
        runs = [((True, False), (("send", 0, 1), ("rest", 0), ("get", 5, 1), ("visit", 0))),
                ((False,) * 6, (("visit", 5), ("get", 3, 2))), ((True, True, False), ())]
        for works, deeds in runs:
            for text in changed_texts(run_text(works, deeds), SIGNS):
                expected = expected_run(text)
                right += type(expected) is tuple
                shown = repr(expected) if type(expected) is tuple else f"raises BadText({expected.line})"
                self.assertEqual(outcome(read_run, text), shown, text)
        # Another machine, another sign, lines elsewhere make other runs.
        self.assertGreater(right, 20)


if __name__ == "__main__":
    unittest.main()
