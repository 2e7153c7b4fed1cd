"""Completions of partial systems, and papers that there is none."""

from itertools import combinations

from paironce.errors import TooMany
from paironce.partial import first_fault, is_open, kept_threes, opens_of, points_of, thirds_of, with_three
from paironce.systems import is_integer, is_row

# More than the thirds that two points can have; stands where a pair is not open.
NOT_OPEN = 100


def complete(count, threes, *, limit=20000):
    """The threes of the least completion, or None if there is none."""
    kept = kept_threes(count, threes)
    found, added = _search(opens_of(count, kept), limit, True)
    if found == 0:
        return None
    return sorted(kept + added)


def completion_count(count, threes, *, limit=20000):
    """The number of all completions."""
    kept = kept_threes(count, threes)
    found, _ = _search(opens_of(count, kept), limit, False)
    return found


def is_completion(count, threes, whole):
    """True if the threes of `whole` are a completion of the partial system."""
    kept = kept_threes(count, threes)
    if first_fault(count, whole) is not None:
        return False
    told = set(kept_threes(count, whole))
    for three in kept:
        if three not in told:
            return False
    return True


def filled(count, threes):
    """The threes, and the least ones that fit, one after another, until none fits."""
    kept = kept_threes(count, threes)
    opens = opens_of(count, kept)
    added = []
    # A three that does not fit does not fit later on, either: one walk is enough.
    for (a, b, c) in combinations(range(count), 3):
        if is_open(opens, a, b) and is_open(opens, a, c) and is_open(opens, b, c):
            opens = with_three(opens, (a, b, c))
            added.append((a, b, c))
    return sorted(kept + added)


def none_paper(count, threes, *, limit=20000):
    """A list of pairs that shows that there is no completion, or None if there is one."""
    opens = opens_of(count, kept_threes(count, threes))
    many = _thirds_counted(count, opens)
    waiting = [(opens, many, None)]
    paper = []
    while waiting:
        opens, many, three = waiting.pop()
        if three is not None:
            opens, many = _counted_with_three(count, opens, many, three)
        fewest = min(many)
        if fewest == NOT_OPEN:
            return None
        if len(paper) == limit:
            raise TooMany(limit)
        # The table tells each pair in both orders; the ascending one stands first.
        a, b = divmod(many.index(fewest), count)
        paper.append((a, b))
        for c in reversed(thirds_of(opens, a, b)):
            waiting.append((opens, many, (a, b, c)))
    return paper


def check_none(count, threes, paper):
    """True if a list of pairs shows that there is no completion."""
    waiting = [(opens_of(count, kept_threes(count, threes)), None)]
    for pair in paper:
        if not waiting:
            return False
        opens, three = waiting.pop()
        if three is not None:
            opens = with_three(opens, three)
        if not _is_open_pair(count, opens, pair):
            return False
        a, b = pair
        for c in reversed(thirds_of(opens, a, b)):
            waiting.append((opens, (a, b, c)))
    return not waiting


def _search(opens, limit, only_first):
    """How many whole systems the search comes to, and the threes put in for the last one."""
    if not any(opens):
        return (1, [])
    found = 0
    tried = 0
    added = []
    # A stack of its own: the search goes deeper than calls may.
    waiting = _tries(opens, 0)
    while waiting:
        depth, three, before = waiting.pop()
        tried += 1
        if tried > limit:
            raise TooMany(limit)
        added = added[:depth] + [three]
        after = with_three(before, three)
        if any(after):
            waiting.extend(_tries(after, depth + 1))
        else:
            found += 1
            if only_first:
                return (found, added)
    return (found, added)


def _tries(opens, depth):
    """The threes of the first open pair, the last one first."""
    a = 0
    while opens[a] == 0:
        a += 1
    b = points_of(opens[a])[0]
    return [(depth, (a, b, c), opens) for c in reversed(thirds_of(opens, a, b))]


def _thirds_counted(count, opens):
    """For each pair, in both orders and row by row, how many thirds it has."""
    many = []
    for a in range(count):
        for b in range(count):
            if is_open(opens, a, b):
                many.append(len(thirds_of(opens, a, b)))
            else:
                many.append(NOT_OPEN)
    return many


def _counted_with_three(count, opens, many, three):
    """Which pairs are open, and how many thirds they have, when a three is put in."""
    a, b, c = three
    closed = list(opens)
    fewer = list(many)
    for (p, q) in ((a, b), (a, c), (b, c)):
        # Each third of a pair that is closed loses a third with both of its points.
        for x in thirds_of(closed, p, q):
            for (one, other) in ((p, x), (x, p), (q, x), (x, q)):
                fewer[one * count + other] -= 1
        closed[p] ^= 1 << q
        closed[q] ^= 1 << p
        fewer[p * count + q] = NOT_OPEN
        fewer[q * count + p] = NOT_OPEN
    return (closed, fewer)


def _is_open_pair(count, opens, pair):
    if not is_row(pair) or len(pair) != 2:
        return False
    a, b = pair
    if not is_integer(a) or not is_integer(b):
        return False
    return 0 <= a < b < count and is_open(opens, a, b)
