"""What a shell is to answer, worked out apart from the package's shell."""

import re

from stillrounds.booktexts import read_book
from stillrounds.errors import StillError
from stillrounds.knownbooks import known_book
from tests.ownkeepers import Own
from tests.rowtables import falls_told

LINES = [
    (name, re.compile(form, re.DOTALL)) for name, form in (
        ("book", r"book (.*)"), ("known", r"known ([0-9]) (.*)"), ("world", r"world (.*)"), ("start", r"start ([wr]+)"),
        ("deed", r"(send|get) ([0-9]) ([0-9])"), ("deed", r"(rest|visit) ([0-9])"), ("edit", r"(undo|redo)"),
        ("machine", r"machine ([0-9])"), ("keeper", r"(letters|tour|before|said|still|open|run)"), ("text", r"text"),
        ("judge", r"(safe|falls)"),
    )
]
WORLDS = {
    f"{roads}, {tours}": (roads, tours) for roads in ("slow", "at once") for tours in ("alike", "anew")
}


def spaced(*items):
    return " ".join(str(item) for item in items)


def listed(items, sign):
    return sign.join(items) or "none"


class OwnShell:
    def __init__(self):
        self.book = self.world = self.own = None

    def say(self, line):
        if type(line) is not str:
            return "what"
        for name, form in LINES:
            match = form.fullmatch(line)
            if match:
                return self.lacks(name) or getattr(self, "say_" + name)(*match.groups())
        return "what"

    def lacks(self, name):
        if name in ("start", "text", "judge") and self.book is None:
            return "no book"
        if name in ("start", "judge") and self.world is None:
            return "no world"
        return "no run" if name in ("deed", "edit", "machine", "keeper") and self.own is None else ""

    def settled(self, read):
        try:
            self.book = read()
        except StillError as error:
            return f"error {type(error).__name__}"
        self.own = None
        return str(len(self.book[1]))

    def say_book(self, text):
        return self.settled(lambda: read_book(text))

    def say_known(self, figure, name):
        return self.settled(lambda: known_book(name, int(figure)))

    def say_world(self, text):
        if text not in WORLDS:
            return "error BadText"
        self.world, self.own = WORLDS[text], None
        return text

    def say_start(self, signs):
        if len(signs) != len(self.book[1]):
            return "error Unfit"
        self.own = Own(self.book, self.world, tuple(sign == "w" for sign in signs))
        return "begun"

    def done(self, told):
        """What Own tells of an edit, as an answer."""
        return "error " + re.match(r"raises (\w+)", told)[1] if told.startswith("raises") else "version " + told

    def say_deed(self, word, *figures):
        return self.done(self.own.do((word,) + tuple(int(figure) for figure in figures)))

    def say_edit(self, word):
        return self.done(self.own.undo() if word == "undo" else self.own.redo())

    def say_machine(self, figure):
        i, course = int(figure), self.own.course()
        if i >= len(self.book[1]):
            return "error Unfit"
        told = spaced("works" if course.busy[i] else "rests", course.sent[i], course.got[i])
        return told + (": " + ", ".join(sorted(course.noted[i])) if course.noted[i] else "")

    def say_keeper(self, word):
        course = self.own.course()
        _, letters, (visited, sent, got, spoilt), before, said = course.standing()
        told = {
            "letters": listed([f"{i}>{j} {many}" for i, j, many in letters], ", "),
            "tour": (spaced(*visited) or "none") + "; " + spaced(sent, got) + ("; spoilt" if spoilt else ""),
            "before": spaced(*before) if before else "none",
            "said": said,
            "still": "no" if any(course.busy) or letters else "yes",
            "open": listed([spaced(*deed) for deed in sorted(course.deeds())], ", "),
            "run": "\n".join(["start " + "".join("rw"[each] for each in self.own.works)]
                             + [spaced(*deed) for deed in self.own.stand]),
        }
        return told[word]

    def say_text(self):
        tests, manners = self.book
        lines = ["tests " + listed([f"{one}={other}" for one, other in tests], ", ")]
        for waits, notes in manners:
            lines.append(("waits" if waits else "any time") + (": " + ", ".join(notes) if notes else ""))
        return "\n".join(lines)

    def say_judge(self, word):
        told = falls_told(self.book, self.world)
        if word == "safe":
            return "no" if told else "yes"
        return listed([str(number) for number in told], " ")
