"""Plain forms of terms, and what they decide: if two terms are equal in every system.

Plain forms are told by their texts. A dict `sides` tells the two texts of the sides of each
pair that comes up among them, the sides ahead of the pair; names do not stand in it.
"""

from itertools import permutations

from paironce.errors import InvalidQuestion, InvalidSystem, TooMany
from paironce.names import is_name
from paironce.systems import ascending_three, is_integer, is_row, meet_twice
from paironce.terms import check_name, folded, names_of, pair_text, steps_of, term_text

MOST_NAMES_COUNTED = 26
MOST_LEAVES_COUNTED = 60


class Parting:
    """A proof that two terms come to unlike points in some system."""

    def __init__(self, count, threes, names, ends):
        self.count = count
        # Copied, as whoever handed them in may change them.
        self.threes = _copied(threes)
        self.names = _copied(names)
        self.ends = _copied(ends)


def plain(term):
    """The plain form of a term."""
    sides = {}
    return _terms([plain_text(term, sides)], sides)[0]


def is_plain(term):
    """True if the term is its own plain form."""
    return plain_text(term, {}) == term_text(term)


def equal_everywhere(one, other):
    """True if two terms come to the same point in every system."""
    return plain_text(one, {}) == plain_text(other, {})


def parting(one, other):
    """The Parting of two terms that is told, or None if they are equal in every system."""
    sides = {}
    first = plain_text(one, sides)
    second = plain_text(other, sides)
    if first == second:
        return None
    # The sides of plain forms are plain forms of parts, too, so each pair has its three.
    names = sorted(set(names_of(one) + names_of(other)))
    points = {text: point for point, text in enumerate(_in_order(names + list(sides)))}
    threes = [tuple(sorted([points[text], points[low], points[high]])) for text, (low, high) in sides.items()]
    named = {name: points[name] for name in names}
    return Parting(len(points), sorted(threes), named, (points[first], points[second]))


def check_parting(one, other, told):
    """True if a Parting is right for two terms."""
    terms = [steps_of(one), steps_of(other)]
    if not _are_told_points(told):
        return False
    thirds = {}
    for three in told.threes:
        for a, b, c in permutations(three):
            thirds[(a, b)] = c
    first, second = [_end(steps, told.names, thirds) for steps in terms]
    if first is None or second is None or first == second:
        return False
    return list(told.ends) == [first, second]


def plain_count(names, leaves):
    """How many plain forms with so many names there are in which so many names stand."""
    if not 0 <= names <= MOST_NAMES_COUNTED or not 1 <= leaves <= MOST_LEAVES_COUNTED:
        raise InvalidQuestion("plain forms are counted for 0 to 26 names, 1 to 60 of which stand there")
    forms = [0, names]
    pairs = {}
    for many in range(2, leaves + 1):
        for one in range(1, many):
            pairs[(one, many - one)] = _pair_count(forms, pairs, one, many - one)
        forms.append(sum([pairs[(one, many - one)] for one in range(1, many)]) // 2)
    return forms[leaves]


def plain_forms(names, leaves, *, limit=2000):
    """The list of all plain forms of some names in which so many names stand, in their order."""
    for name in names:
        check_name(name)
    different = sorted(set(names))
    if plain_count(len(different), leaves) > limit:
        raise TooMany(limit)
    sides = {}
    forms = [[], different]
    for many in range(2, leaves + 1):
        forms.append(_pairs_of(forms, sides, many))
    return _terms(_in_order(forms[leaves]), sides)


def plain_text(term, sides):
    """The text of the plain form of a term; `sides` is told the pairs among those of its parts."""
    return folded(steps_of(term), lambda name: name, lambda one, other: _made(sides, one, other))


def _made(sides, one, other):
    """The plain form of the pair of two plain forms."""
    if one == other:
        return one
    low, high = _in_order([one, other])
    # A side of a pair has a shorter text, so only the greater one can have the other as a side.
    if low in sides.get(high, ()):
        first, second = sides[high]
        return second if first == low else first
    text = pair_text(low, high)
    sides[text] = (low, high)
    return text


def _in_order(texts):
    """Texts of terms in the order of these."""
    return sorted(texts, key=lambda text: (len(text), text))


def _terms(texts, sides):
    """The terms with these texts."""
    terms = {}
    for text, (low, high) in sides.items():
        terms[text] = (terms.get(low, low), terms.get(high, high))
    return [terms.get(text, text) for text in texts]


def _copied(told):
    """The same with new lists and dicts; all else is kept as it is."""
    if isinstance(told, list):
        return [_copied(part) for part in told]
    if isinstance(told, dict):
        return {name: told[name] for name in told}
    return told


def _are_told_points(told):
    """True if all that a Parting tells are points, and no two of them lie in two of its threes."""
    if not is_integer(told.count) or not is_row(told.threes):
        return False
    try:
        threes = [ascending_three(told.count, three) for three in told.threes]
    except InvalidSystem:
        return False
    for name, point in told.names.items():
        if not isinstance(name, str) or not is_name(name):
            return False
        if not is_integer(point) or not 0 <= point < told.count:
            return False
    return not meet_twice(threes)


def _end(steps, names, thirds):
    """The point to which a term comes by some threes, or None."""
    return folded(steps, lambda name: names.get(name), lambda one, other: _third_told(thirds, one, other))


def _third_told(thirds, one, other):
    if one == other:
        return one
    return thirds.get((one, other))


def _pair_count(forms, pairs, one, other):
    """How many pairs of plain forms are plain, the order of the sides counted, by the names in each side."""
    count = forms[one] * forms[other]
    if one == other:
        return count - forms[one]
    # Left out are those whose greater side is a pair with the lesser one.
    if one < other:
        return count - pairs[(one, other - one)]
    return count - pairs[(other, one - other)]


def _pairs_of(forms, sides, many):
    """The plain forms in which so many names stand, by those in which fewer do."""
    told = []
    for fewer in range(1, many // 2 + 1):
        for one in forms[fewer]:
            for other in forms[many - fewer]:
                if _is_new(sides, one, other, 2 * fewer == many):
                    told.append(_made(sides, one, other))
    return told


def _is_new(sides, one, other, alike):
    """True if two plain forms make a plain pair that is not made of them in the other order, too."""
    if alike:
        return one < other
    return one not in sides.get(other, ())
