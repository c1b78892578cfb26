"""The FLOORS that SLIDES make of one FLOOR: standings and families."""

from holefloors.counts import how_many
from holefloors.errors import CanNot, TooMany
from holefloors.fits import fit_floor, fit_kind, fit_map, fit_pair, floor_or_none, map_laid_hole, need_place
from holefloors.floors import MOST_FLOORS, all_floors
from holefloors.ground import hole_in, places_in
from holefloors.trails import floor_of, laid_at, laid_of, never_in, tree_steps


def standings(yard, floor):
    """The list, ascending, of the pairs (place, floor) of all standings, each with its HOLE."""
    near, laid, hole = map_laid_hole(yard, floor)
    holes = sorted(tree_steps(near, laid, hole))
    return [(place, floor_of(laid_at(near, laid, hole, place))) for place in holes]


def standing_at(yard, floor, place):
    """The standing with its HOLE at a PLACE."""
    near, laid, hole = map_laid_hole(yard, floor)
    goal = fit_pair(place)
    need_place(near, goal)
    if goal not in tree_steps(near, laid, hole):
        raise CanNot()
    return floor_of(laid_at(near, laid, hole, goal))


def _still_of(near, floor):
    """What never moves from a FLOOR: the same for those that lead to one another, and for no others."""
    return never_in(near, laid_of(floor), hole_in(near, floor))


def is_standing(yard, floor, thing):
    """Whether thing is one of the standings of the FLOOR."""
    near = fit_map(yard)
    own = fit_floor(near, floor)
    told = floor_or_none(near, thing)
    # A list is never equal to the tuple that was made of it.
    return told is not None and told == thing and _still_of(near, told) == _still_of(near, own)


def how_many_standings(yard, floor):
    """How many standings the FLOOR has."""
    near, laid, hole = map_laid_hole(yard, floor)
    return len(tree_steps(near, laid, hole))


def least_standing(yard, floor):
    """The least of the standings."""
    return min([own for place, own in standings(yard, floor)])


def are_of_one(yard, floor, other):
    """Whether both FLOORS are of one family."""
    near = fit_map(yard)
    own = fit_floor(near, floor)
    return _still_of(near, own) == _still_of(near, fit_floor(near, other))


def _need_few(yard, holes):
    """Raises TooMany if more than 2,000 FLOORS have one of these HOLES."""
    many = 0
    for hole in holes:
        many += how_many(yard, hole)
        # On great yards each number takes its time, and the first one tells enough.
        if many > MOST_FLOORS:
            raise TooMany()


def floors_by_still(yard, kind):
    """A dict of the families of FLOORS with a HOLE of a kind, each under what never moves from them."""
    near = fit_map(yard)
    holes = places_in(near, fit_kind(kind))
    _need_few(yard, holes)
    found = {}
    for hole in holes:
        for floor in all_floors(yard, hole):
            found.setdefault(_still_of(near, floor), []).append(floor)
    return found


def families(yard, kind):
    """The list, ascending, of the least standings of all families of FLOORS with a HOLE of a kind."""
    return sorted([min(family) for family in floors_by_still(yard, kind).values()])


def free_families(yard):
    """The list, ascending, of the least standings of the families of free FLOORS."""
    every = floors_by_still(yard, "post")
    # A family is free exactly if each POST is the HOLE of one of its FLOORS.
    whole = len(places_in(fit_map(yard), "post"))
    return sorted([min(family) for family in every.values() if len(family) == whole])
