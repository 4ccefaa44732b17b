"""The lines that are said to a shell, and what each of them asks for.

A request is a pair of a word and of what the line tells besides: a text, a pair of a number and a text, what tells
who works at first, a deed, a number; None if it tells nothing.
"""

FIGURES = {"0": 0, "1": 1, "2": 2, "3": 3, "4": 4, "5": 5, "6": 6, "7": 7, "8": 8, "9": 9}

# How many figures stand behind these words.
FIGURES_BEHIND = {"send": 2, "get": 2, "rest": 1, "visit": 1, "machine": 1}
ALONE = (
    "undo", "redo", "letters", "tour", "before", "said", "still", "open", "run", "text", "safe", "falls",
)


def known_request(told):
    """The request for the known book of which told tells a figure and a name."""
    figure, blank, name = told.partition(" ")
    if not blank or figure not in FIGURES:
        return None
    return ("known", (FIGURES[figure], name))


def start_request(signs):
    """The request for a new keeper, signs telling who works at first."""
    if not signs or not all([sign in ("w", "r") for sign in signs]):
        return None
    return ("start", tuple([sign == "w" for sign in signs]))


def figures_request(word, told):
    """The request for a deed of the machines of which told tells the figures, or for what is told of one of them."""
    figures = told.split(" ")
    if len(figures) != FIGURES_BEHIND[word] or not all([figure in FIGURES for figure in figures]):
        return None
    numbers = [FIGURES[figure] for figure in figures]
    return ("machine", numbers[0]) if word == "machine" else ("do", tuple([word] + numbers))


def request_in(line):
    """What line, any value, asks for; None if it is no line that is told."""
    if not isinstance(line, str):
        return None
    if line in ALONE:
        return (line, None)
    word, blank, told = line.partition(" ")
    if not blank:
        return None
    if word in ("book", "world"):
        return (word, told)
    if word == "known":
        return known_request(told)
    if word == "start":
        return start_request(told)
    return figures_request(word, told) if word in FIGURES_BEHIND else None
