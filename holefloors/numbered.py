"""FLOORS by number, in the order of their rows."""

from holefloors.begun import Begun
from holefloors.errors import CanNot, TooMany
from holefloors.fits import fit_map, fit_number_from_0, fit_pair, fit_rail_row, map_and_floor, map_and_place
from holefloors.fits import map_laid_hole, need_place
from holefloors.ground import hole_in, places_in
from holefloors.laying import Laying, places_of_row
from holefloors.matching import floor_with, floor_with_hole
from holefloors.rings import laid_turned, rings_in
from holefloors.told import clash_of, many_that_have
from holefloors.trails import floor_of, laid_of

MOST_AT_ONCE = 200


def row_of_rails(yard, floor):
    """The row of the FLOOR."""
    near, laid, hole = map_laid_hole(yard, floor)
    return tuple([laid[place] for place in places_of_row(near, hole)])


def _many_by_rings(near, hole, couples):
    """How many FLOORS have COUPLES, those of all POSTS among them: each RING of PLOTS not told lies two ways."""
    floor = floor_with(near, hole, couples)
    if floor is None:
        return 0
    told = {place: True for place, rail in couples}
    free = [ring for ring in rings_in(near, laid_of(floor), "plot") if not any([place in told for place in ring])]
    return 1 << len(free)


def many_begin(yard, hole, rails):
    """How many FLOORS with this HOLE have a row that begins with these RAILS."""
    near = fit_map(yard)
    place = fit_pair(hole)
    row = fit_rail_row(near, rails)
    need_place(near, place)
    order = places_of_row(near, place)
    couples = tuple(sorted(list(zip(order, row))))
    if len(row) > len(order) or not all([rail in near[own] for own, rail in couples]):
        return 0
    if clash_of(near, place, couples) is not None:
        return 0
    posts = [own for own in places_in(near, "post") if own != place]
    if len(row) > len(posts):
        return _many_by_rings(near, place, couples)
    return many_that_have(near, place, couples)


def _with_rings(near, floor, number):
    """Of the FLOORS that are alike but for RINGS of PLOTS turned, that with this number among them."""
    laid = laid_of(floor)
    found = rings_in(near, laid, "plot")
    for at, ring in enumerate(found):
        # The RING with the least PLOT of all comes first in a row, so it weighs most.
        greater = ((number >> (len(found) - 1 - at)) & 1) == 1
        if (laid[ring[0]] > laid[ring[-1]]) != greater:
            laid = laid_turned(laid, ring)
    return floor_of(laid)


def _number_by_rings(near, laid):
    """The number of a FLOOR among those that are alike but for RINGS of PLOTS turned."""
    number = 0
    for ring in rings_in(near, laid, "plot"):
        number = 2 * number + (1 if laid[ring[0]] > laid[ring[-1]] else 0)
    return number


def floor_at(yard, hole, number):
    """The FLOOR with this HOLE that has this number."""
    near = fit_map(yard)
    place = fit_pair(hole)
    left = fit_number_from_0(number)
    need_place(near, place)
    begun = Begun(near, place)
    if left >= begun.many():
        raise CanNot()
    couples = []
    for post in begun.posts():
        for rail in near[post]:
            many = begun.many_with_rail(rail)
            if left < many:
                begun.give(rail)
                couples.append((post, rail))
                break
            left -= many
    return _with_rings(near, floor_with(near, place, couples), left)


def floor_number(yard, floor):
    """The number of the FLOOR."""
    near, laid, hole = map_laid_hole(yard, floor)
    begun = Begun(near, hole)
    number = _number_by_rings(near, laid)
    for post in begun.posts():
        number += sum([begun.many_with_rail(rail) for rail in near[post] if rail < laid[post]])
        begun.give(laid[post])
    return number


def _end_floor(yard, hole, backward):
    """The first FLOOR with this HOLE, or the last one."""
    near, place = map_and_place(yard, hole)
    laying = Laying(near, place, floor_with_hole(near, place), backward)
    laying.settle(0)
    return laying.floor()


def first_floor(yard, hole):
    """The FLOOR with this HOLE that stands ahead of all."""
    return _end_floor(yard, hole, False)


def last_floor(yard, hole):
    """The FLOOR with this HOLE that stands behind all."""
    return _end_floor(yard, hole, True)


def _floors_on(near, floor, many, backward):
    """The list of the FLOOR and those behind it, ahead of it if backward, many together at the most."""
    laying = Laying(near, hole_in(near, floor), floor, backward)
    found = [floor]
    while len(found) < many and laying.step():
        found.append(laying.floor())
    return found[:many]


def _beside(yard, floor, backward):
    """The FLOOR right behind, or right ahead of, one."""
    near, own = map_and_floor(yard, floor)
    found = _floors_on(near, own, 2, backward)
    if len(found) < 2:
        raise CanNot()
    return found[1]


def next_floor(yard, floor):
    """The FLOOR right behind this one, with the same HOLE."""
    return _beside(yard, floor, False)


def floor_ahead(yard, floor):
    """The FLOOR right ahead of this one, with the same HOLE."""
    return _beside(yard, floor, True)


def floors_from(yard, floor, many):
    """The list of the FLOOR and those behind it, many together at the most."""
    near, own = map_and_floor(yard, floor)
    most = fit_number_from_0(many)
    if most > MOST_AT_ONCE:
        raise TooMany()
    return _floors_on(near, own, most, False)
