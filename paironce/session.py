"""Sessions: a library that is used by lines of text."""

from paironce.commands import is_command, split_words
from paironce.errors import (InvalidNotation, InvalidQuestion, InvalidSystem, NameInUse, NothingToRedo, NothingToUndo,
                             UnknownName, UnknownPoint)
from paironce.library import Library
from paironce.notation import kept_text, parse_system

# The commands that change nothing.
ASKING = ("answer", "answers", "print", "systems", "questions")


class Session:
    """A library, and the block of lines that is open, if there is one."""

    def __init__(self):
        self.library = Library()
        # The name for the system of the open block, or None, and the lines that were taken.
        self._name = None
        self._taken = []

    def run(self, text):
        """Does the lines of a text, and returns the list of the lines that they answer."""
        told = []
        for number, line in enumerate(text.split("\n"), start=1):
            words = split_words(line)
            if len(words) > 0:
                told.extend(self._line(number, words))
        return told

    def _line(self, number, words):
        """What a line with these words answers."""
        if self._name is not None and words != ["end"]:
            self._taken.append(" ".join(words))
            return []
        if self._name is None and not is_command(words):
            return [f"line {number}: invalid command"]
        try:
            return self._answers(words)
        except UnknownName as missing:
            return [f"line {number}: unknown name {missing.name}"]
        except UnknownPoint as strange:
            return [f"line {number}: unknown point {strange.point}"]
        except NameInUse as needed:
            return [f"line {number}: name in use {needed.name}"]
        except InvalidNotation as wrong:
            # The line ahead of those that were taken was not one of them.
            return [f"line {number}: invalid notation {wrong.line - 1}"]
        except InvalidSystem:
            return [f"line {number}: invalid system"]
        except InvalidQuestion:
            return [f"line {number}: invalid question"]
        except NothingToUndo:
            return [f"line {number}: nothing to undo"]
        except NothingToRedo:
            return [f"line {number}: nothing to redo"]

    def _answers(self, words):
        """Does a command, or closes the open block, and returns what this answers."""
        if self._name is not None:
            self._close()
        elif words[0] in ASKING:
            return self._asked(words)
        elif words[0] == "system":
            self._name = words[1]
        else:
            self._change(words)
        return ["ok"]

    def _close(self):
        name, taken = self._name, self._taken
        # Closed first, since the block is closed even if no system comes of it.
        self._name = None
        self._taken = []
        self.library.set_system(name, parse_system("\n".join(["system"] + taken)))

    def _change(self, words):
        word = words[0]
        if word == "double":
            self.library.double(words[1], words[2])
        elif word == "product":
            self.library.product(words[1], words[2], words[3])
        elif word == "take":
            self.library.take_out(words[1], words[2], _points(words[3:]))
        elif word == "remove":
            self.library.remove_system(words[1])
        elif word == "ask":
            self.library.ask(words[1], words[2], words[3], _points(words[4:]))
        elif word == "drop":
            self.library.drop(words[1])
        elif word == "undo":
            self.library.undo()
        else:
            self.library.redo()

    def _asked(self, words):
        word = words[0]
        if word == "answer":
            return [_answer_line(words[1], self.library.answer(words[1]))]
        if word == "answers":
            return [_answer_line(name, told) for name, told in self.library.answers()]
        if word == "print":
            return kept_text(self.library.system(words[1])).split("\n")
        if word == "systems":
            return [" ".join(["systems:"] + self.library.system_names())]
        return [" ".join(["questions:"] + self.library.question_names())]


def _points(words):
    return [int(word) for word in words]


def _answer_line(name, told):
    return " ".join([f"{name}:"] + [str(part) for part in told])
