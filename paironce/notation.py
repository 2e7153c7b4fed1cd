"""The written form of systems."""

from paironce.errors import InvalidNotation, InvalidSystem
from paironce.systems import ARMS, MOST_PARTS, checked

MOST_DIGITS = 31


def format_system(tree):
    """The written form of a system."""
    return kept_text(checked(tree))


def parse_system(text):
    """The tree that the text writes."""
    heads = _heads(text.split("\n"))
    # A tree of that many parts is not built: it is none, and it might be very deep.
    if len(heads) > MOST_PARTS:
        raise InvalidSystem("the tree has too many parts")
    return checked(_tree_of(heads))


def kept_text(tree):
    """The written form of a checked tree."""
    return "\n".join(["system"] + _tree_lines(tree))


def is_number(word):
    """True if the word writes an integer from 0 on."""
    if not word.isascii() or not word.isdigit() or len(word) > MOST_DIGITS:
        return False
    return word == "0" or word[0] != "0"


def three_lines(threes):
    """The lines of some threes."""
    return [f"three {a} {b} {c}" for (a, b, c) in threes]


def is_line(words, first, many):
    """True if the words of a line are the first word and so many integers."""
    return words[0] == first and len(words) == many + 1 and all([is_number(word) for word in words[1:]])


def _tree_lines(tree):
    kind = tree[0]
    if ARMS[kind] > 0:
        lines = [kind]
        for arm in tree[1:]:
            lines.extend(_tree_lines(arm))
        return lines
    lines = [f"{kind} {tree[1]}"]
    if kind == "listed":
        lines.extend(three_lines(tree[2]))
    return lines


def _heads(lines):
    """The parts of the tree in their order, each without its arms."""
    if lines[0] != "system":
        raise InvalidNotation(1)
    heads = []
    missing = 1
    for at, line in enumerate(lines[1:], start=2):
        words = line.split(" ")
        if missing > 0 and _is_head(words):
            heads.append(_head(words))
            missing += ARMS[words[0]] - 1
        elif is_line(words, "three", 3) and heads and heads[-1][0] == "listed":
            heads[-1][2].append([int(word) for word in words[1:]])
        else:
            raise InvalidNotation(at)
    if missing > 0:
        raise InvalidNotation(len(lines) + 1)
    return heads


def _is_head(words):
    kind = words[0]
    if kind not in ARMS:
        return False
    if ARMS[kind] > 0:
        return len(words) == 1
    return is_line(words, kind, 1)


def _head(words):
    head = words[:1] + [int(word) for word in words[1:]]
    if words[0] == "listed":
        head.append([])
    return head


def _tree_of(heads):
    # From the last one on, the arms of a part are there when it comes.
    trees = []
    for head in reversed(heads):
        tree = list(head)
        for _ in range(ARMS[head[0]]):
            tree.append(trees.pop())
        trees.append(tree)
    return trees[0]
