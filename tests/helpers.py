"""What the tests share: calls by place and by name, values of all kinds, examples of the document."""

import copy
import unittest

from stillrounds.errors import StillError


def outcome(function, *values, **named):
    """What a call tells or raises, as a text in which True is not 1, nor a list a tuple."""
    try:
        told = function(*values, **named)
    except StillError as error:
        fields = ", ".join(repr(field) for field in vars(error).values())
        return f"raises {type(error).__name__}({fields})"
    return repr(told)


def is_fixed(value):
    """Whether value is made of what cannot change."""
    if isinstance(value, tuple):
        return all(is_fixed(item) for item in value)
    return value is None or type(value) in (bool, int, str)


class CallCase(unittest.TestCase):
    """Asks for an outcome in all the ways in which a call can be made."""

    def outcome_of(self, function, named):
        """The outcome of a call, which is the same by place and by name, and again."""
        ahead = repr(named)
        values = list(named.values())
        first = outcome(function, *values)
        turned = dict(reversed(list(named.items())))
        others = [
            outcome(function, *values),
            outcome(function, **named),
            outcome(function, **turned),
            outcome(function, values[0], **dict(list(named.items())[1:])) if named else first,
            outcome(function, **copy.deepcopy(named)),
        ]
        self.assertEqual(others, [first] * len(others))
        self.assertEqual(repr(named), ahead, "what is handed in was changed")
        return first

    def tells(self, expected, function, **named):
        """The call returns expected, and nothing else that equals it to Python."""
        self.assertEqual(self.outcome_of(function, named), repr(expected))
        self.assertTrue(is_fixed(function(**named)))

    def raises(self, expected, function, **named):
        """The call raises the error expected is an example of, with these fields."""
        fields = ", ".join(repr(field) for field in vars(expected).values())
        wanted = f"raises {type(expected).__name__}({fields})"
        self.assertEqual(self.outcome_of(function, named), wanted)
        with self.assertRaises(type(expected)):
            function(**named)

    def raises_or_tells(self, expected, function, **named):
        if isinstance(expected, StillError):
            self.raises(expected, function, **named)
        else:
            self.tells(expected, function, **named)


def nested(depth, wrap):
    value = 0
    for _ in range(depth):
        value = wrap(value)
    return value


def any_values():
    """Values of all kinds, also great, deep and empty ones."""
    return [
        None, True, False, 0, 1, -1, 2, 6, 10 ** 399, -(10 ** 399),
        "", "a", "\n", " ", "waits", "slow", "alike", "form", "send", "start wr", "G1", "G1=S1",
        "x" * 20000, "\n" * 20000, "waits\n" * 3000,
        (), [], {}, (()), ((),), ((), ()), [(), ()], ((), [], {}), ([], []), [[], []], {0: 1}, {"tests": ()},
        {(): ()}, {("G1", "S1"): True}, (None, None), (None,), (True, ()), (0, 0), ("slow", "alike", "anew"),
        nested(20, lambda value: (value,)), nested(20, lambda value: [value]), nested(20, lambda value: {0: value}),
        nested(19, lambda value: (value, value)[:1]), tuple(range(4000)), list(range(4000)),
        {key: () for key in range(1300)}, ((),) * 4000, ("visit",) * 4000, ({},) * 2, ((True, ()),) * 2,
    ]


def run_example(names, source):
    """What an example of the document shows; names are those that were set."""
    try:
        code = compile(source, "example", "eval")
    except SyntaxError:
        exec(source, names)
        return None
    return outcome(eval, code, names)


def examples_in(text):
    """The pairs of a line behind ">>>" and what stands below it, in text."""
    pairs = []
    for line in text.strip().split("\n"):
        line = line.strip()
        if line.startswith(">>> "):
            pairs.append([line[4:], None])
        elif line:
            pairs[-1][1] = line
    return pairs


def changed_texts(text, signs):
    """Texts near text: a sign left out, doubled, put in, exchanged; lines doubled, left out, put elsewhere."""
    found = []
    for at in range(len(text) + 1):
        found.append(text[:at] + text[at + 1:])
        found.append(text[:at] + text[at:at + 1] + text[at:])
        found.extend(text[:at] + sign + text[at:] for sign in signs)
        found.extend(text[:at] + sign + text[at + 1:] for sign in signs)
        found.append(text[:at] + text[at + 1:at + 2] + text[at:at + 1] + text[at + 2:])
    lines = text.split("\n")
    for at, line in enumerate(lines):
        rest = lines[:at] + lines[at + 1:]
        found.append("\n".join(rest))
        found.extend("\n".join(rest[:k] + [line] + rest[k:]) for k in range(len(lines)))
        found.extend("\n".join(lines[:k] + [line] + lines[k:]) for k in range(len(lines) + 1))
        found.extend("\n".join(lines[:at] + [other] + lines[at + 1:]) for other in ("", " ", line.upper(), line[:-1]))
    return found + ["\n" + text, text + "\n", text + "\n\n", text + " ", " " + text, text + "\n" + text]
