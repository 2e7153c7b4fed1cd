"""A library of systems and of questions about them."""

from paironce.errors import (InvalidQuestion, NameInUse, NothingToRedo, NothingToUndo, PaironceError, TooMany,
                             UnknownName, UnknownPoint)
from paironce.notation import kept_text
from paironce.subsystems import closed, least_points, taken_out
from paironce.systems import checked, size
from paironce.thirds import third

# The fewest and the most points that a question of each kind is about.
KINDS = {"size": (0, 0), "least": (0, 0), "third": (2, 2), "closed": (0, 6)}
MOST_CLOSED = 2000

SYSTEMS = "systems"
QUESTIONS = "questions"


def decide(kind, tree, points):
    """The answer of a question of this kind about a system and some points."""
    kept = checked(tree)
    _check_question(kind, points)
    try:
        return _answer(kind, kept, points)
    except UnknownPoint as error:
        return ("unknown", error.point)
    except InvalidQuestion:
        return ("refused",)
    except TooMany:
        return ("many", MOST_CLOSED)


class Library:
    """Systems and questions under names; each change can be taken back."""

    def __init__(self):
        self.decided = 0
        self.kept = 0
        self._held = {SYSTEMS: {}, QUESTIONS: {}}
        self._done = []
        self._undone = []
        self._told = {}

    def set_system(self, name, tree):
        """Sets a system under a name."""
        self._change(SYSTEMS, name, checked(tree))

    def double(self, name, one):
        """Sets the double of a system under a name."""
        self.set_system(name, ("double", self.system(one)))

    def product(self, name, one, other):
        """Sets the product of two systems under a name."""
        self.set_system(name, ("product", self.system(one), self.system(other)))

    def take_out(self, name, one, points):
        """Sets the least subsystem that holds some points of a system under a name."""
        self.set_system(name, taken_out(self.system(one), points))

    def remove_system(self, name):
        """Removes a system that no question is about."""
        self.system(name)
        if name in [question[1] for question in self._held[QUESTIONS].values()]:
            raise NameInUse(name)
        self._change(SYSTEMS, name, None)

    def ask(self, name, kind, one, points):
        """Sets a question under a name."""
        self.system(one)
        _check_question(kind, points)
        self._change(QUESTIONS, name, (kind, one, tuple(points)))

    def drop(self, name):
        """Removes a question."""
        self.question(name)
        self._change(QUESTIONS, name, None)

    def undo(self):
        """Takes back the last change that is not taken back."""
        if len(self._done) == 0:
            raise NothingToUndo("there is no change to take back")
        change = self._done.pop()
        group, name, before, _ = change
        self._put(group, name, before)
        self._undone.append(change)

    def redo(self):
        """Makes the change again that was taken back last."""
        if len(self._undone) == 0:
            raise NothingToRedo("there is no change to make again")
        change = self._undone.pop()
        group, name, _, after = change
        self._put(group, name, after)
        self._done.append(change)

    def change_all(self, changes):
        """Makes several changes, or none of them if one raises an error."""
        many = len(self._done)
        undone = list(self._undone)
        try:
            for word, *told in changes:
                self._make(word, told)
        except PaironceError:
            while len(self._done) > many:
                self.undo()
            self._undone = undone
            raise

    def system_names(self):
        """The ascending list of the names of systems."""
        return sorted(self._held[SYSTEMS])

    def question_names(self):
        """The ascending list of the names of questions."""
        return sorted(self._held[QUESTIONS])

    def system(self, name):
        """The system of a name."""
        return self._get(SYSTEMS, name)

    def question(self, name):
        """The kind of a question, the name of its system, and its points."""
        return self._get(QUESTIONS, name)

    def answer(self, name):
        """The answer of a question."""
        kind, one, points = self.question(name)
        tree = self.system(one)
        # A text, since the key of a dict is not nested as deeply as a tree may be.
        asked = (kind, kept_text(tree), points)
        if asked in self._told:
            self.kept += 1
        else:
            self._told[asked] = decide(kind, tree, points)
            self.decided += 1
        return self._told[asked]

    def answers(self):
        """The names of all questions, ascending, each with its answer."""
        return [(name, self.answer(name)) for name in self.question_names()]

    def _make(self, word, told):
        """Makes the change of a method with its arguments."""
        methods = {
            "set_system": self.set_system, "double": self.double, "product": self.product, "take_out": self.take_out,
            "remove_system": self.remove_system, "ask": self.ask, "drop": self.drop,
        }
        method = methods[word]
        method(*told)

    def _get(self, group, name):
        if name not in self._held[group]:
            raise UnknownName(name)
        return self._held[group][name]

    def _change(self, group, name, after):
        self._done.append((group, name, self._held[group].get(name), after))
        self._undone = []
        self._put(group, name, after)

    def _put(self, group, name, told):
        """Sets what a name tells, or removes the name for None."""
        if told is None:
            del self._held[group][name]
        else:
            self._held[group][name] = told


def _check_question(kind, points):
    if kind not in KINDS:
        raise InvalidQuestion("there is no such kind of question")
    fewest, most = KINDS[kind]
    if not fewest <= len(points) <= most:
        raise InvalidQuestion("a question of this kind is about another number of points")


def _answer(kind, tree, points):
    if kind == "size":
        return ("size", size(tree))
    if kind == "least":
        return ("least",) + tuple(least_points(tree))
    if kind == "third":
        a, b = points
        return ("third", third(tree, a, b))
    return ("closed", len(closed(tree, points, limit=MOST_CLOSED)))
