"""The words of commands."""

from paironce.library import KINDS
from paironce.names import is_name
from paironce.notation import is_number

# How many names stand behind the word of a command, and the fewest and the most points behind these.
COMMANDS = {
    "system": (1, 0, 0), "double": (2, 0, 0), "product": (3, 0, 0), "take": (2, 1, 6), "remove": (1, 0, 0),
    "drop": (1, 0, 0), "answer": (1, 0, 0), "answers": (0, 0, 0), "print": (1, 0, 0), "systems": (0, 0, 0),
    "questions": (0, 0, 0), "undo": (0, 0, 0), "redo": (0, 0, 0),
}


def split_words(line):
    """The words of a line."""
    return [word for word in line.split(" ") if len(word) > 0]


def is_command(words):
    """True if the words are a command."""
    if words[0] == "ask":
        return _is_ask(words)
    if words[0] not in COMMANDS:
        return False
    names, fewest, most = COMMANDS[words[0]]
    return _are_told(words[1:], names, fewest, most)


def _is_ask(words):
    if len(words) < 3 or words[2] not in KINDS:
        return False
    fewest, most = KINDS[words[2]]
    return _are_told([words[1]] + words[3:], 2, fewest, most)


def _are_told(words, names, fewest, most):
    """True if the words are so many names, and behind them a number of points within these bounds."""
    points = words[names:]
    if len(words) < names or not fewest <= len(points) <= most:
        return False
    return all([is_name(word) for word in words[:names]]) and all([is_number(word) for word in points])
