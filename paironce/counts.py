"""Counts that are the same for systems that are alike."""

from paironce.errors import InvalidQuestion
from paironce.renaming import listed
from paironce.systems import check_points_below
from paironce.tables import all_rounds_in, product_table, rounds_in


def fours(tree):
    """The list of the numbers of fours at the points."""
    table = product_table(listed(tree))
    return _fours(len(table), all_rounds_in(table))


def four_count(tree):
    """How many fours the system has."""
    # Each four lies on six points.
    return sum(fours(tree)) // 6


def rounds(tree, one, other):
    """The ascending list of the lengths of the rounds of two points."""
    table = product_table(listed(tree))
    check_points_below(len(table), [one, other])
    if one == other:
        raise InvalidQuestion("one point alone has no rounds")
    return list(rounds_in(table, one, other))


def all_rounds(tree):
    """The ascending list of the lengths of rounds, each with the number of pairs of points that have these."""
    return _pairs_counted(all_rounds_in(product_table(listed(tree))))


def counts_of(tree):
    """The counts of a system."""
    table = product_table(listed(tree))
    told = all_rounds_in(table)
    return (len(table), tuple(sorted(_fours(len(table), told))), tuple(_pairs_counted(told)))


def shows_unlike(one, other):
    """True if the counts of two systems differ."""
    return counts_of(one) != counts_of(other)


def _fours(count, told):
    # At a point of a four just one other point lies in none of its two threes; both have four points as a round.
    fours_at = [0] * count
    for (a, b), lengths in told.items():
        fours_at[a] += lengths.count(4)
        fours_at[b] += lengths.count(4)
    return fours_at


def _pairs_counted(told):
    many = {}
    for lengths in told.values():
        many[lengths] = many.get(lengths, 0) + 1
    return sorted(many.items())
