"""Classes of affine systems: the threes of one direction."""

from paironce.errors import InvalidQuestion, TooMany
from paironce.systems import check_points_below, power_of_three
from paironce.thirds import kept_product, kept_third
from paironce.threes import kept_number_of, kept_three_at

MOST_FIGURES = 60


def class_count(figures):
    """The number of the classes."""
    _check_figures(figures)
    return (power_of_three(figures) - 1) // 2


def class_of(figures, a, b):
    """The number of the class of the three with two points."""
    _check_figures(figures)
    check_points_below(power_of_three(figures), [a, b])
    if a == b:
        raise InvalidQuestion("one point alone has no class")
    tree = ("affine", figures)
    # The numbers of threes go by their directions first.
    return kept_number_of(tree, _ascending(tree, a, b)) // power_of_three(figures - 1)


def line_through(figures, number, point):
    """The three of a class that has a point."""
    _check_class(figures, number)
    check_points_below(power_of_three(figures), [point])
    tree = ("affine", figures)
    # The first three of a class has the point 0, and so the direction behind it.
    direction = kept_three_at(tree, number * power_of_three(figures - 1))[1]
    # A product makes 0 with the sum of its points, so that of 0 and it is this sum.
    return _ascending(tree, point, kept_product(tree, 0, kept_product(tree, point, direction)))


def lines_of(figures, number, *, limit=1000):
    """The ascending list of all threes of a class."""
    _check_class(figures, number)
    many = power_of_three(figures - 1)
    if many > limit:
        raise TooMany(limit)
    return [kept_three_at(("affine", figures), number * many + at) for at in range(many)]


def _ascending(tree, a, b):
    return tuple(sorted([a, b, kept_third(tree, a, b)]))


def _check_figures(figures):
    if not 1 <= figures <= MOST_FIGURES:
        raise InvalidQuestion("points have 1 to 60 figures")


def _check_class(figures, number):
    if not 0 <= number < class_count(figures):
        raise InvalidQuestion("there is no such class")
