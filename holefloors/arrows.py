"""The arrows of a FLOOR, and its TREE."""

from holefloors.errors import CanNot
from holefloors.fits import fit_pair, map_laid_hole, need_place
from holefloors.trails import goal_of, never_in, trail, tree_steps


def _laid_and_place(yard, floor, place):
    """The map of the CELLS of a YARD, what is laid by a FLOOR of it, and a PLACE."""
    near, laid, _ = map_laid_hole(yard, floor)
    start = fit_pair(place)
    need_place(near, start)
    return (near, laid, start)


def arrows(yard, floor):
    """The list, ascending, of the pairs (place, goal) of all PLACES but the HOLE; goal None for out."""
    near, laid, _ = map_laid_hole(yard, floor)
    return [(place, goal_of(near, laid, place)) for place in laid]


def arrow_of(yard, floor, place):
    """To where the arrow of a PLACE leads, None for out."""
    near, laid, start = _laid_and_place(yard, floor, place)
    if start not in laid:
        raise CanNot()
    return goal_of(near, laid, start)


def ends_in(yard, floor, place):
    """Where the arrows from a PLACE lead at last: "home", "out" or "ring"."""
    near, laid, start = _laid_and_place(yard, floor, place)
    last = trail(near, laid, start)[-1]
    if last not in laid:
        return "home"
    return "out" if goal_of(near, laid, last) is None else "ring"


def tree(yard, floor):
    """The TREE: the set of the PLACES to which PLANS bring the HOLE."""
    near, laid, hole = map_laid_hole(yard, floor)
    return tuple(sorted(tree_steps(near, laid, hole)))


def way_home(yard, floor, place):
    """The tuple of the PLACES from a PLACE to the HOLE, arrow by arrow, both with it."""
    near, laid, start = _laid_and_place(yard, floor, place)
    way = trail(near, laid, start)
    if way[-1] in laid:
        raise CanNot()
    return way


def tree_rails(yard, floor):
    """The set of the RAILS of the COUPLES of the TREE's PLACES."""
    near, laid, hole = map_laid_hole(yard, floor)
    return tuple(sorted([laid[place] for place in tree_steps(near, laid, hole) if place != hole]))


def never_moved(yard, floor):
    """The set of the COUPLES of the FLOOR that stand in each FLOOR to which PLANS lead."""
    near, laid, hole = map_laid_hole(yard, floor)
    return never_in(near, laid, hole)
