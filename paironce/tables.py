"""The products and the rounds of all points of a small system, worked out once."""


def product_table(tree):
    """For each point of a listed tree, the list of its products with all points."""
    _, count, threes = tree
    table = [[point] * count for point in range(count)]
    for (a, b, c) in threes:
        for (one, other, last) in ((a, b, c), (a, c, b), (b, c, a)):
            table[one][other] = last
            table[other][one] = last
    return table


def rounds_in(table, one, other):
    """The ascending tuple of the lengths of the rounds of two points."""
    seen = set([one, other, table[one][other]])
    lengths = []
    for first in range(len(table)):
        if first not in seen:
            length = 0
            point = first
            while point not in seen:
                between = table[one][point]
                seen.add(point)
                seen.add(between)
                point = table[other][between]
                length += 2
            lengths.append(length)
    return tuple(sorted(lengths))


def all_rounds_in(table):
    """The lengths of the rounds of all two points, by ascending pairs."""
    count = len(table)
    return {(a, b): rounds_in(table, a, b) for a in range(count) for b in range(a + 1, count)}
