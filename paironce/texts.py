"""The written forms of partial systems, and of papers about their completions."""

from paironce.completing import check_none, complete, is_completion, none_paper
from paironce.errors import InvalidNotation, InvalidPaper, InvalidSystem
from paironce.notation import is_line, three_lines
from paironce.partial import kept_threes

# The first line of a paper, and the first word and the number of integers of the lines behind it.
PAPERS = {"whole": ("three", 3), "none": ("open", 2)}


def threes_text(count, threes):
    """The written form of a partial system."""
    return "\n".join([f"threes {count}"] + three_lines(kept_threes(count, threes)))


def parse_threes(text):
    """The number of points and the ascending list of the threes that the text writes."""
    lines = text.split("\n")
    if not is_line(lines[0].split(" "), "threes", 1):
        raise InvalidNotation(1)
    strange = _strange_line(lines, "three", 3)
    if strange is not None:
        raise InvalidNotation(strange)
    count = _integers(lines[0])[0]
    return (count, kept_threes(count, [_integers(line) for line in lines[1:]]))


def paper_text(count, threes, *, limit=20000):
    """The written form of the paper about a partial system."""
    whole = complete(count, threes, limit=limit)
    if whole is not None:
        return "\n".join(["whole"] + three_lines(whole))
    pairs = none_paper(count, threes, limit=limit)
    return "\n".join(["none"] + [f"open {a} {b}" for (a, b) in pairs])


def parse_paper(text):
    """The first word of a paper, and the list of its threes or pairs."""
    lines = text.split("\n")
    if lines[0] not in PAPERS:
        raise InvalidPaper(1)
    first, many = PAPERS[lines[0]]
    strange = _strange_line(lines, first, many)
    if strange is not None:
        raise InvalidPaper(strange)
    return (lines[0], [_integers(line) for line in lines[1:]])


def check_text(count, threes, text):
    """True if the text of a paper is right for a partial system."""
    kept = kept_threes(count, threes)
    word, told = parse_paper(text)
    if word == "none":
        return check_none(count, kept, told)
    try:
        return is_completion(count, kept, told)
    except InvalidSystem:
        return False


def _strange_line(lines, first, many):
    """The number of the first line behind the first one that is not this word and so many integers, or None."""
    for at, line in enumerate(lines[1:], start=2):
        if not is_line(line.split(" "), first, many):
            return at
    return None


def _integers(line):
    return tuple([int(word) for word in line.split(" ")[1:]])
