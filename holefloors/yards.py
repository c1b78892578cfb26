"""Sets of SQUARES, and the YARDS among them."""

from holefloors.errors import CanNot
from holefloors.fits import fit_count, fit_map, fit_square, fit_square_of, fit_squares, fit_yard, yard_or_none
from holefloors.ground import all_plots, all_posts, all_rails, around, hang_by_sides, kind_by_numbers
from holefloors.ground import make_yard, post_cells, surplus_of
from holefloors.shapes import as_pair


def is_yard(thing):
    """Whether thing is a YARD."""
    yard = yard_or_none(thing)
    # A list is never equal to the tuple that was made of it.
    return yard is not None and yard == thing


def is_square(yard, thing):
    """Whether thing is a SQUARE of the YARD."""
    squares = fit_yard(yard)
    return isinstance(thing, tuple) and as_pair(thing) in squares


def hangs_together(squares):
    """Whether SQUARES hang together by sides."""
    return hang_by_sides(fit_squares(squares))


def surplus(squares):
    """POSTS and PLOTS of all SQUARES, less their RAILS, each counted once."""
    return surplus_of(fit_squares(squares))


def squares_beside(yard, square):
    """The set of the SQUARES of the YARD that have a side in common with one of them."""
    squares = fit_yard(yard)
    middle = fit_square_of(squares, square)
    return tuple([other for other in around(middle) if other in squares])


def posts(yard):
    """The set of the POSTS."""
    return all_posts(fit_yard(yard))


def rails(yard):
    """The set of the RAILS."""
    return all_rails(fit_yard(yard))


def plots(yard):
    """The set of the PLOTS."""
    return all_plots(fit_yard(yard))


def sizes(yard):
    """How many POSTS, RAILS and PLOTS there are."""
    squares = fit_yard(yard)
    return (len(all_posts(squares)), len(all_rails(squares)), len(all_plots(squares)))


def rim(yard):
    """The set of the RAILS that are sides of just one SQUARE."""
    near = fit_map(yard)
    # Two POSTS are beside each RAIL, the other CELLS beside it are PLOTS.
    return tuple([cell for cell in near if kind_by_numbers(cell) == "rail" and len(near[cell]) == 3])


def inner_posts(yard):
    """The set of the POSTS that are corners of four SQUARES."""
    squares = fit_yard(yard)
    corners_of = {}
    for square in squares:
        for post in post_cells(square):
            corners_of[post] = corners_of.get(post, 0) + 1
    return tuple(sorted([post for post in corners_of if corners_of[post] == 4]))


def boxed(many, high):
    """The YARD of all SQUARES that are many side by side, high above one another."""
    columns = fit_count(many)
    lines = fit_count(high)
    return tuple([(east, north) for east in range(columns) for north in range(lines)])


def square_more(yard, square):
    """The YARD with one more SQUARE."""
    squares = fit_yard(yard)
    new = fit_square(square)
    more = tuple(sorted(squares + (new,)))
    if new in squares or not make_yard(more):
        raise CanNot()
    return more


def square_less(yard, square):
    """The YARD without one of its SQUARES."""
    squares = fit_yard(yard)
    old = fit_square_of(squares, square)
    fewer = tuple([other for other in squares if other != old])
    if not make_yard(fewer):
        raise CanNot()
    return fewer
