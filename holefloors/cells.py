"""CELLS of a YARD, PLACES among them, and COUPLES."""

from holefloors.fits import fit_couple, fit_kind, fit_map, fit_pair, fit_square_of, fit_yard
from holefloors.fits import map_and_place, need_cell, need_rail
from holefloors.ground import beyond, couples_in, is_couple_in, kind_by_numbers, places_in, plot_cell
from holefloors.shapes import as_couple, as_pair


def is_cell(yard, thing):
    """Whether thing is a CELL of the YARD."""
    near = fit_map(yard)
    return isinstance(thing, tuple) and as_pair(thing) in near


def is_place(yard, thing):
    """Whether thing is a PLACE of the YARD."""
    near = fit_map(yard)
    pair = as_pair(thing) if isinstance(thing, tuple) else None
    return pair in near and kind_by_numbers(pair) != "rail"


def is_couple(yard, thing):
    """Whether thing is a COUPLE of the YARD."""
    near = fit_map(yard)
    couple = as_couple(thing)
    # A list is never equal to the tuple that was made of it.
    return couple is not None and couple == thing and is_couple_in(near, couple)


def kind_of(yard, cell):
    """The kind of a CELL: "post", "plot" or "rail"."""
    near = fit_map(yard)
    own = fit_pair(cell)
    need_cell(near, own)
    return kind_by_numbers(own)


def cells(yard):
    """The set of all CELLS."""
    return tuple(fit_map(yard))


def places(yard, kind):
    """The set of the PLACES of a kind."""
    near = fit_map(yard)
    return places_in(near, fit_kind(kind))


def plot_of(yard, square):
    """The PLOT of a SQUARE."""
    return plot_cell(fit_square_of(fit_yard(yard), square))


def cells_beside(yard, cell):
    """The set of the CELLS beside a CELL."""
    near = fit_map(yard)
    own = fit_pair(cell)
    need_cell(near, own)
    return near[own]


def rails_at(yard, place):
    """The set of the RAILS beside a PLACE."""
    near, own = map_and_place(yard, place)
    return near[own]


def ends(yard, rail):
    """The pair of the POSTS beside a RAIL, ascending."""
    near = fit_map(yard)
    own = fit_pair(rail)
    need_rail(near, own)
    return tuple([cell for cell in near[own] if kind_by_numbers(cell) == "post"])


def sides(yard, rail):
    """The pair of the PLOTS beside a RAIL, the one on the west or south first, None for out."""
    near = fit_map(yard)
    east, north = fit_pair(rail)
    need_rail(near, (east, north))
    if east % 2 == 0:
        both = ((east - 1, north), (east + 1, north))
    else:
        both = ((east, north - 1), (east, north + 1))
    return tuple([plot if plot in near else None for plot in both])


def couples(yard):
    """The set of all COUPLES."""
    return couples_in(fit_map(yard))


def points_to(yard, couple):
    """The PLACE to which a COUPLE points, None for out."""
    near = fit_map(yard)
    place, rail = fit_couple(near, couple)
    goal = beyond(place, rail)
    return goal if goal in near else None


def couples_to(yard, place):
    """The set of the COUPLES that point to a PLACE."""
    near, goal = map_and_place(yard, place)
    # What points to a PLACE lies over against it, beyond the same RAIL.
    pointing = [(beyond(goal, rail), rail) for rail in near[goal]]
    return tuple(sorted([couple for couple in pointing if couple[0] in near]))


def couples_out(yard):
    """The set of the COUPLES that point out."""
    near = fit_map(yard)
    return tuple([(place, rail) for place, rail in couples_in(near) if beyond(place, rail) not in near])
