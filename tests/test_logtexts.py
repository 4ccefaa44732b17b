"""[K4], [K5]: logs of calls of a keeper, as texts and back, and the keeper behind them."""

import random
import unittest

from stillrounds.books import book_error
from stillrounds.errors import BadBook, BadLog, BadText, StillError, Unfit
from stillrounds.keepers import Keeper
from stillrounds.logtexts import keeper_behind, log_text, read_log
from tests.bookkinds import WORLDS
from tests.helpers import CallCase, any_values, changed_texts, is_fixed, outcome
from tests.ownkeepers import COUNTED, NO_DEEDS, QUIET, SLOW, Own, kept_runs, shown

UNDO, REDO = ("undo",), ("redo",)
NO_CALLS = [
    None, True, 0, "undo", "do", [], {}, (), ("do",), ("undo", 0), ("redo", None), ("undo", ("rest", 0)), ["undo"],
    ("Undo",), ("do", ("rest", 0), 0), ["do", ("rest", 0)], ("did", ("rest", 0)), ("rest", 0), (("rest", 0),),
    (None, ("rest", 0)), ("visit", 0), (("undo",),), {"undo": 0}, ("",), (0,), ("do", "redo", "undo"),
]


def deeds_of(many):
    machines = range(many)
    found = [(word, i) for word in ("rest", "visit") for i in machines]
    return found + [(word, i, j) for word in ("send", "get") for i in machines for j in machines if i != j]


def random_log(draw, many, length):
    deeds = deeds_of(many)
    return tuple(draw.choice((UNDO, REDO, ("do", draw.choice(deeds)))) for _ in range(length))


def text_told(log):
    lines = [" ".join(str(item) for item in call[1]) if len(call) == 2 else call[0] for call in log]
    return "".join(f"{line}\n" for line in lines)


def lines_told(many):
    """Each line that is the text of a call for many machines, and that call."""
    lines = {" ".join(str(item) for item in deed): ("do", deed) for deed in deeds_of(many)}
    return {**lines, "undo": UNDO, "redo": REDO}


LINES = {many: lines_told(many) for many in range(2, 7)}


def read_told(many, value):
    """The outcome of read_log."""
    if type(value) is not str:
        return "raises BadText(0)"
    parts = value.split("\n")
    parts = parts[:-1] if not parts[-1] else parts
    for number, line in enumerate(parts):
        if line not in LINES[many] or number >= 240:
            return f"raises BadText({number})"
    return repr(tuple(LINES[many][line] for line in parts))


def behind_told(book, world, works, value):
    """The outcome of keeper_behind: what it raises, or what is shown of its keeper."""
    if book_error(book) is not None:
        return f"raises BadBook({book_error(book)!r})"
    if outcome(Keeper, book, world, works) == "raises Unfit()":
        return "raises Unfit()"
    if type(value) is not tuple:
        return "raises BadLog(0)"
    own = Own(book, world, works)
    for place, call in enumerate(value):
        if call in (UNDO, REDO) and type(call) is tuple:
            told = getattr(own, call[0])()
        elif type(call) is tuple and len(call) == 2 and type(call[0]) is str and call[0] == "do":
            told = own.do(call[1])
        else:
            told = "raises"
        if told.startswith("raises"):
            return f"raises BadLog({place})"
    return own.shown()


class LogText(CallCase):
    def test_logs_of_none_to_240_calls(self):
        draw = random.Random(151)
        for length in list(range(40)) + [100, 239, 240]:
            for many in range(2, 7):
                log = random_log(draw, many, length)
                self.tells(text_told(log), log_text, log=log)
                self.tells(log, read_log, many=many, value=text_told(log))

    def test_each_call(self):
        for many in range(2, 7):
            for line, call in LINES[many].items():
                self.tells(line + "\n", log_text, log=(call,))
                self.tells((call,), read_log, many=many, value=line + "\n")
                self.tells((call,), read_log, many=many, value=line)
                self.tells("redo\n" + line + "\nundo\n", log_text, log=(REDO, call, UNDO))

    def test_unlike_logs_have_unlike_texts(self):
        calls = list(LINES[3].values())
        logs = [()] + [(one,) for one in calls] + [(one, other) for one in calls for other in calls]
        self.assertEqual(len({log_text(log) for log in logs}), len(logs))

    def test_calls_of_keepers(self):
        for book, world, works, draw in kept_runs(152, 40):
            log = log_of_calls(book, world, works, draw, 60)
            self.assertEqual(read_log(len(works), log_text(log)), log)


def log_of_calls(book, world, works, draw, most):
    """A log of calls none of which raises an error."""
    own, log = Own(book, world, works), []
    for _ in range(most):
        can = []
        if len(own.stand) < 60:
            can += [("do", deed) for deed in own.course().deeds()] * 2
        can += [UNDO] * (3 if own.stand else 0) + [REDO] * (6 if own.back else 0)
        if not can:
            break
        call = draw.choice(can)
        told = own.do(call[1]) if call[0] == "do" else getattr(own, call[0])()
        assert not told.startswith("raises")
        log.append(call)
    return tuple(log)


class ReadLog(CallCase):
    def judged(self, many, value):
        self.assertEqual(outcome(read_log, many, value), read_told(many, value), (many, value))

    def told(self, many, value):
        self.assertEqual(self.outcome_of(read_log, {"many": many, "value": value}), read_told(many, value))

    def test_values_of_all_kinds(self):
        for many in range(2, 7):
            for value in any_values():
                self.told(many, value)
                if type(value) is not str:
                    self.raises(BadText(0), read_log, many=many, value=value)
        for value in (("undo\n",), ["undo"], (UNDO,), {"undo": 0}):
            self.assertEqual(outcome(read_log, 2, value), "raises BadText(0)")

    def test_empty_ones(self):
        for many in range(2, 7):
            self.tells((), read_log, many=many, value="")
            self.raises(BadText(0), read_log, many=many, value="\n")
            self.raises(BadText(0), read_log, many=many, value="\n\n")
            self.raises(BadText(0), read_log, many=many, value="\nundo\n")
            self.raises(BadText(1), read_log, many=many, value="undo\n\n")
            self.raises(BadText(1), read_log, many=many, value="undo\n\nundo")
            self.tells((UNDO,), read_log, many=many, value="undo")

    def test_spoilt_texts(self):
        draw = random.Random(153)
        for many in range(2, 7):
            text = text_told(random_log(draw, many, 5))
            self.told(many, text)
            for value in changed_texts(text, " \n01567snuU-+_"):
                self.judged(many, value)

    def test_lines_that_are_near(self):
        odd = [
            "", " ", "undo ", " undo", "Undo", "UNDO", "undo 0", "undo0", "un", "do", "do rest 0", "redo redo", "rest",
            "rest ", "rest  0", "rest 0 ", " rest 0", "rest 00", "rest 01", "rest +0", "rest -0", "rest 0.", "rest a",
            "rest 0 1", "send 0", "send 0 0", "send 1 1", "send 0  1", "send 0 1 ", "send 0 1 2", "get 0", "get 1 1",
            "visit", "visit 0 1", "start wr", "rest\t0", "rest 0x", "rest 6", "rest 9", "send 0 6", "get 6 0", "rest 10",
            "visit 6", "visit -1", "rest\n0", "0 rest", "('undo',)", "rest, 0", "send 0,1", "send 01", "rest True",
        ]
        for many in range(2, 7):
            for line in odd + list(LINES[6]):
                for text in (line, line + "\n", "undo\n" + line, "redo\n" + line + "\nrest 0\n", line + "\nwrong"):
                    self.judged(many, text)

    def test_machines_below_many(self):
        for many in range(2, 7):
            for machine in range(10):
                for text in (f"rest {machine}", f"visit {machine}", f"send {machine} 0", f"get 1 {machine}"):
                    self.judged(many, text + "\n")

    def test_240_lines_and_one_more(self):
        draw = random.Random(154)
        for many in (2, 6):
            log = random_log(draw, many, 240)
            text = text_told(log)
            self.tells(log, read_log, many=many, value=text)
            self.tells(log, read_log, many=many, value=text[:-1])
            for more in ("undo\n", "rest 0", "wrong", "\n", "undo\n" * 100, "wrong\n" * 100):
                self.raises(BadText(240), read_log, many=many, value=text + more)
            self.raises(BadText(0), read_log, many=many, value="wrong\n" + text)
            self.raises(BadText(120), read_log, many=many,
                        value=text_told(log[:120]) + "wrong\n" + text_told(log[120:]))
            self.raises(BadText(239), read_log, many=many, value=text_told(log[:239]) + "undo \nundo\n")

    def test_random_texts(self):
        draw, told = random.Random(155), {}
        for _ in range(3000):
            many = draw.randint(2, 6)
            lines = [draw.choice(list(LINES[draw.choice((many, many, many, 6))])) for _ in range(draw.randint(0, 6))]
            text = "\n".join(lines) + draw.choice(("", "\n"))
            self.judged(many, text)
            told[(many, read_told(many, text).startswith("raises"))] = True
        self.assertEqual(len(told), 10)


class KeeperBehind(unittest.TestCase):
    def judged(self, book, world, works, value):
        """By place and by name; it tells what is told, and the keeper is a new one."""
        expected = behind_told(book, world, works, value)
        ahead = repr((book, world, works, value))
        for call in (lambda: keeper_behind(book, world, works, value),
                     lambda: keeper_behind(value=value, works=works, world=world, book=book)):
            told = outcome(call)
            if expected.startswith("raises"):
                self.assertEqual(told, expected, value)
            else:
                self.assertEqual(shown(call()), expected)
                self.assertIsNot(call(), call())
        self.assertEqual(repr((book, world, works, value)), ahead)
        return expected.partition("(")[0] if expected.startswith("raises") else "told"

    def test_logs_that_keepers_take(self):
        for book, world, works, draw in kept_runs(156, 80):
            log = log_of_calls(book, world, works, draw, 40)
            self.assertEqual(self.judged(book, world, works, log), "told")

    def test_logs_cut_exchanged_doubled_and_with_odd_items(self):
        told = {}
        for book, world, works, draw in kept_runs(157, 40):
            log = log_of_calls(book, world, works, draw, 14)
            changed = [log[:at] + log[at + 1:] for at in range(len(log))]
            changed += [log[:at] for at in range(len(log))]
            changed += [log[:at + 1] + log[at:] for at in range(len(log))]
            changed += [log[:at] + log[at:at + 2][::-1] + log[at + 2:] for at in range(len(log) - 1)]
            changed += [log[:at] + (draw.choice(NO_CALLS),) + log[at:] for at in range(len(log) + 1)]
            changed += [log[:at] + (("do", draw.choice(NO_DEEDS)),) + log[at:] for at in range(len(log) + 1)]
            changed += [log + log, log[::-1], (log,), log + (log,)]
            for value in changed:
                told[self.judged(book, world, works, value)] = True
        self.assertEqual(set(told), {"told", "raises BadLog"})

    def test_odd_items_at_each_place(self):
        log = (("do", ("send", 0, 1)), UNDO, REDO, ("do", ("rest", 0)))
        for at in range(len(log) + 1):
            for wrong in NO_CALLS + any_values() + [("do", wrong) for wrong in NO_DEEDS + any_values()]:
                value = log[:at] + (wrong,) + log[at:]
                self.assertEqual(outcome(keeper_behind, COUNTED, SLOW, (True, False), value), f"raises BadLog({at})")

    def test_values_of_all_kinds(self):
        for value in any_values():
            told = outcome(keeper_behind, COUNTED, SLOW, (True, False), value)
            if value == () and type(value) is tuple:
                self.assertFalse(told.startswith("raises"))
            else:
                self.assertEqual(told, "raises BadLog(0)")

    def test_what_keeper_raises_comes_first(self):
        for value in any_values() + [(UNDO,), (("do", ("rest", 0)),), (None,)]:
            self.assertEqual(self.judged(((), ()), SLOW, (True, False), value), "raises BadBook")
            self.assertEqual(self.judged(None, None, None, value), "raises BadBook")
            self.assertEqual(self.judged(COUNTED, ("slow",), (True, False), value), "raises Unfit")
            self.assertEqual(self.judged(COUNTED, SLOW, (True,), value), "raises Unfit")
            self.assertEqual(self.judged(COUNTED, value, (True, False), value), "raises Unfit")
            self.assertEqual(self.judged(COUNTED, SLOW, value, value), "raises Unfit")

    def test_more_than_240_calls(self):
        once = (("do", ("send", 0, 1)), UNDO, REDO, UNDO)
        for times in (59, 60, 61, 100, 900):
            self.assertEqual(self.judged(COUNTED, SLOW, (True, False), once * times), "told")
            for wrong in (None, REDO + UNDO, ("do", ("rest", 1)), UNDO):
                value = once * times + (wrong,)
                self.assertEqual(outcome(keeper_behind, COUNTED, SLOW, (True, False), value),
                                 f"raises BadLog({4 * times})")

    def test_each_kind_of_error(self):
        sends = (("do", ("send", 0, 1)),) * 60
        for value, place in (((UNDO,), 0), ((REDO,), 0), (sends + (("do", ("rest", 0)),), 60), (sends + (REDO,), 60),
                             ((("do", ("rest", 0)), UNDO, ("do", ("send", 0, 1)), REDO), 3),
                             ((("do", ("rest", 0)), ("do", ("rest", 0))), 1), (sends + (("do", None),), 60)):
            with self.assertRaises(BadLog) as caught:
                keeper_behind(COUNTED, SLOW, (True, False), value)
            self.assertEqual(vars(caught.exception), {"place": place})
            self.assertIs(type(caught.exception), BadLog)
        for error, values in ((BadBook, (None, SLOW, (), ())), (Unfit, (COUNTED, SLOW, (), ())),
                              (BadLog, (COUNTED, SLOW, (True, False), []))):
            with self.assertRaises(error) as caught:
                keeper_behind(*values)
            self.assertIsInstance(caught.exception, StillError)

    def test_a_keeper_is_behind_its_own_deeds(self):
        for book, world, works, draw in kept_runs(158, 60):
            keeper = keeper_behind(book, world, works, log_of_calls(book, world, works, draw, 50))
            log = tuple(("do", deed) for deed in keeper.deeds)
            other = keeper_behind(keeper.book, keeper.world, keeper.works, log)
            self.assertTrue(other == keeper)
            self.assertEqual((other.deeds, other.version, other.undone), (keeper.deeds, keeper.version, 0))
            self.assertEqual(read_log(len(works), log_text(log)), log)

    def test_parts_of_what_is_returned(self):
        log = read_log(2, "rest 0\nundo\nredo\n")
        self.assertTrue(is_fixed(log))
        for value in (log, log + log, (log,), list(log), log[0], log[0][1], tuple(list(call) for call in log),
                      tuple(log[0][1] for _ in range(3)), Keeper(COUNTED, SLOW, (True, False))):
            told = outcome(keeper_behind, COUNTED, SLOW, (True, False), value)
            expected = behind_told(COUNTED, SLOW, (True, False), value)
            self.assertEqual(told if expected.startswith("raises") else expected, expected)
        for world in WORLDS:
            keeper = keeper_behind(((), (QUIET,) * 6), world, (True,) * 6, ())
            self.assertEqual((keeper.deeds, keeper.world), ((), world))


if __name__ == "__main__":
    unittest.main()
