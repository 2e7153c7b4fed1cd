"""Terms: names, and pairs of two terms.

A term is gone over by its steps: its names in the order of its text, and None behind the two
sides of each pair. So no function calls itself here, however deep a term is.
"""

from paironce.errors import InvalidTerm, UnknownName
from paironce.names import is_name
from paironce.systems import check_points_below, checked, is_row, kept_size
from paironce.thirds import kept_product

MOST_NAMES = 200


def check_term(term):
    """Raises InvalidTerm if something is no term."""
    steps_of(term)


def leaf_count(term):
    """How many names stand in a term, each counted as often as it stands there."""
    return len(_leaves(steps_of(term)))


def names_of(term):
    """The ascending list of the different names in a term."""
    return _names_in(steps_of(term))


def term_text(term):
    """The text of a term."""
    return folded(steps_of(term), lambda name: name, pair_text)


def replaced(term, table):
    """The term with the terms of a dict in the place of the names that are its keys."""
    steps = steps_of(term)
    for name in table:
        check_name(name)
    inserted = {name: steps_of(table[name]) for name in sorted(table)}
    told = []
    for step in steps:
        if step in inserted:
            told.extend(inserted[step])
        else:
            told.append(step)
    if len(_leaves(told)) > MOST_NAMES:
        raise InvalidTerm("too many names would stand in the term")
    return folded(told, lambda name: name, lambda one, other: (one, other))


def value(system, term, points):
    """The point to which a term comes in a system, with a dict of points for its names."""
    steps = steps_of(term)
    kept = checked(system)
    names = _names_in(steps)
    for name in names:
        if name not in points:
            raise UnknownName(name)
    check_points_below(kept_size(kept), [points[name] for name in names])
    return folded(steps, lambda name: points[name], lambda one, other: kept_product(kept, one, other))


def check_name(name):
    """Raises InvalidTerm if something is no name."""
    if not isinstance(name, str) or not is_name(name):
        raise InvalidTerm("this is no name")


def steps_of(term):
    """The steps of a term; raises InvalidTerm if something is none."""
    steps = []
    pairs = 0
    waiting = [term]
    while waiting:
        part = waiting.pop()
        if is_row(part):
            if len(part) != 2:
                raise InvalidTerm("a pair has two sides")
            pairs += 1
            # One name more than pairs: so what goes on without an end is no term, either.
            if pairs >= MOST_NAMES:
                raise InvalidTerm("too many names stand in the term")
            steps.append(None)
            waiting.extend(part)
        else:
            check_name(part)
            steps.append(part)
    # Taken from the last side to the first one, and each pair ahead of its sides.
    return steps[::-1]


def folded(steps, at_name, at_pair):
    """What steps come to, if two functions tell what a name and a pair of two such values come to."""
    values = []
    for step in steps:
        if step is None:
            other = values.pop()
            one = values.pop()
            values.append(at_pair(one, other))
        else:
            values.append(at_name(step))
    return values[0]


def pair_text(one, other):
    """The text of a pair whose sides have these texts."""
    return f"({one} {other})"


def _leaves(steps):
    return [step for step in steps if step is not None]


def _names_in(steps):
    return sorted(set(_leaves(steps)))
