"""FLOORS: all CELLS but the HOLE laid with COUPLES."""

from holefloors.counts import how_many
from holefloors.errors import CanNot, TooMany
from holefloors.fits import fit_couples, fit_floor, fit_kind, fit_map, fit_pair, floor_or_none
from holefloors.fits import map_and_place, need_cell
from holefloors.ground import hole_in, kind_by_numbers
from holefloors.matching import floor_with_hole

MOST_FLOORS = 2000


def is_floor(yard, thing):
    """Whether thing is a FLOOR of the YARD."""
    near = fit_map(yard)
    floor = floor_or_none(near, thing)
    # A list is never equal to the tuple that was made of it.
    return floor is not None and floor == thing


def hole_of(yard, floor):
    """The HOLE of a FLOOR."""
    near = fit_map(yard)
    return hole_in(near, fit_floor(near, floor))


def couple_at(yard, floor, cell):
    """The COUPLE of a FLOOR that has a CELL."""
    near = fit_map(yard)
    laid = fit_floor(near, floor)
    own = fit_pair(cell)
    need_cell(near, own)
    for couple in laid:
        if own in couple:
            return couple
    raise CanNot()


def couples_of(yard, floor, kind):
    """The set of the COUPLES of a FLOOR whose PLACES are of a kind."""
    near = fit_map(yard)
    laid = fit_floor(near, floor)
    own_kind = fit_kind(kind)
    return tuple([couple for couple in laid if kind_by_numbers(couple[0]) == own_kind])


def _first_covered(near, couples, low, high):
    """The least CELL that is of low to high of the COUPLES, each entry counted; None if there is none."""
    times = {cell: 0 for cell in near}
    for couple in couples:
        for cell in couple:
            times[cell] += 1
    found = [cell for cell in near if low <= times[cell] <= high]
    return found[0] if found else None


def first_gap(yard, couples):
    """The least CELL that is of none of the COUPLES, None if there is none."""
    near = fit_map(yard)
    return _first_covered(near, fit_couples(near, couples), 0, 0)


def first_overlap(yard, couples):
    """The least CELL that is of more than one entry of the COUPLES, None if there is none."""
    near = fit_map(yard)
    told = fit_couples(near, couples)
    return _first_covered(near, told, 2, len(told))


def _couple(cell, other):
    """The COUPLE of two CELLS beside one another."""
    return (other, cell) if kind_by_numbers(cell) == "rail" else (cell, other)


def _fillings(near, open_cells):
    """The list of all ways to part CELLS, ascending, into COUPLES."""
    if not open_cells:
        return [()]
    first = open_cells[0]
    found = []
    for mate in near[first]:
        if mate in open_cells:
            rest = [cell for cell in open_cells[1:] if cell != mate]
            found.extend([(_couple(first, mate),) + way for way in _fillings(near, rest)])
    return found


def all_floors(yard, hole):
    """The list, ascending, of all FLOORS with this HOLE."""
    near, place = map_and_place(yard, hole)
    # Counted ahead: where there are many, going through them would never end.
    if how_many(yard, place) > MOST_FLOORS:
        raise TooMany()
    ways = _fillings(near, [cell for cell in near if cell != place])
    return sorted([tuple(sorted(way)) for way in ways])


def some_floor(yard, hole):
    """A FLOOR with this HOLE."""
    near, place = map_and_place(yard, hole)
    return floor_with_hole(near, place)
