"""How many of the free FLOORS have a RAIL for a POST, or a COUPLE, and what share of all these are."""

from math import gcd

from holefloors.counts import free_many, how_many
from holefloors.fits import fit_couple, fit_map, fit_pair, map_and_place, need_place, need_rail
from holefloors.ground import kind_by_numbers, places_in
from holefloors.lines import table_by_rails, told_rails_of_places
from holefloors.tables import determinant


def _share(many, whole):
    """The pair of two numbers, many over whole, without a common divisor."""
    common = gcd(many, whole)
    return (many // common, whole // common)


def _rail_many(near, rail):
    """In how many free FLOORS a RAIL is of a POST's COUPLE."""
    # It is so exactly if the PLOTS' tree goes without it.
    without = {plot: [other for other in near[plot] if other != rail] for plot in places_in(near, "plot")}
    return determinant(table_by_rails(without, ()))


def free_share(yard, hole):
    """The share of the free ones of all FLOORS with this HOLE."""
    near, place = map_and_place(yard, hole)
    if kind_by_numbers(place) == "plot":
        return (0, 1)
    return _share(free_many(yard), how_many(yard, hole))


def rail_many(yard, rail):
    """In how many free FLOORS of one POST as the HOLE the RAIL is of a POST's COUPLE."""
    near = fit_map(yard)
    own = fit_pair(rail)
    need_rail(near, own)
    return _rail_many(near, own)


def rail_share(yard, rail):
    """The share of these of the free number."""
    return _share(rail_many(yard, rail), free_many(yard))


def couple_many(yard, hole, couple):
    """How many free FLOORS with this HOLE have the COUPLE."""
    near = fit_map(yard)
    place = fit_pair(hole)
    told = fit_couple(near, couple)
    need_place(near, place)
    if kind_by_numbers(place) == "plot" or told[0] == place:
        return 0
    return determinant(table_by_rails(told_rails_of_places(near, place, (told,)), ()))


def couple_share(yard, hole, couple):
    """The share of these of the free number."""
    return _share(couple_many(yard, hole, couple), free_many(yard))


def round_share(yard, place):
    """The shares of the RAILS beside the PLACE, added up, made least."""
    near, own = map_and_place(yard, place)
    return _share(sum([_rail_many(near, rail) for rail in near[own]]), free_many(yard))
