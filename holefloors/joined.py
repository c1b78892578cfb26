"""YARDS put together at one RAIL, and their FLOORS."""

from holefloors.counts import free_many, how_many
from holefloors.errors import CanNot
from holefloors.fits import fit_floor, fit_map, fit_pair, fit_yard, need_place, need_rail
from holefloors.ground import beyond, cell_map, hole_in, is_couple_in, is_floor_in, kind_by_numbers, square_of
from holefloors.told import many_that_have


def _rail_of_both(near, other_near):
    """The RAIL that two YARDS have in common; CanNot if that and its two ends are not just what they have."""
    common = [cell for cell in near if cell in other_near]
    rails = [cell for cell in common if kind_by_numbers(cell) == "rail"]
    # The ends of a common RAIL are common, too.
    if len(common) != 3 or len(rails) != 1:
        raise CanNot()
    return rails[0]


def _ends_of(near, rail):
    """The lesser and the greater end of a RAIL."""
    return tuple([cell for cell in near[rail] if kind_by_numbers(cell) == "post"])


def common_rail(yard, other):
    """The RAIL that two YARDS side by side have in common."""
    near = fit_map(yard)
    return _rail_of_both(near, fit_map(other))


def joined(yard, other):
    """The YARD of two YARDS side by side."""
    squares = fit_yard(yard)
    its = fit_yard(other)
    _rail_of_both(cell_map(squares), cell_map(its))
    return tuple(sorted(squares + its))


def _plots_reached(near, start, barred):
    """A dict of the PLOTS to which one comes from start across RAILS, but not across the barred one."""
    reached = {start: True}
    front = [start]
    while front:
        plot = front.pop()
        for rail in near[plot]:
            there = beyond(plot, rail)
            if rail != barred and there in near and there not in reached:
                reached[there] = True
                front.append(there)
    return reached


def parted(yard, rail):
    """The pair, ascending, of the YARDS with this common RAIL that joined are the YARD."""
    squares = fit_yard(yard)
    near = cell_map(squares)
    own = fit_pair(rail)
    need_rail(near, own)
    plots = [cell for cell in near[own] if kind_by_numbers(cell) == "plot"]
    reached = _plots_reached(near, plots[0], own)
    if len(plots) < 2 or plots[1] in reached:
        raise CanNot()
    # Two parts with one more CELL in common would go round a gap together, so these are side by side.
    part = tuple(sorted([square_of(plot) for plot in reached]))
    rest = tuple([square for square in squares if square not in part])
    return (min(part, rest), max(part, rest))


def bare(yard, rail):
    """How many FLOORS with the greater end of the RAIL as HOLE have the COUPLE of its lesser end with the RAIL."""
    near = fit_map(yard)
    own = fit_pair(rail)
    need_rail(near, own)
    low, high = _ends_of(near, own)
    return many_that_have(near, high, ((low, own),))


def end_shares(yard, hole, rail):
    """How many FLOORS with this HOLE have the RAIL with its lesser end, with its greater end, with a PLOT."""
    near = fit_map(yard)
    place = fit_pair(hole)
    own = fit_pair(rail)
    need_place(near, place)
    need_rail(near, own)
    low, high = [many_that_have(near, place, ((end, own),)) for end in _ends_of(near, own)]
    return (low, high, how_many(yard, place) - low - high)


def many_joined(yard, other, hole):
    """How many FLOORS the YARD of two YARDS side by side has with this HOLE."""
    squares = fit_yard(yard)
    its = fit_yard(other)
    place = fit_pair(hole)
    return how_many(joined(squares, its), place)


def free_joined(yard, other):
    """How many free FLOORS, for each POST, the YARD of two YARDS side by side has."""
    return free_many(joined(yard, other))


def _couples_in(near, floor):
    """The set of the COUPLES of a FLOOR that are of one of both YARDS."""
    return tuple([couple for couple in floor if is_couple_in(near, couple)])


def _half_by_end(near, floor, end, rail):
    """The half of a FLOOR whose HOLE is one end of the common RAIL, end being the other one."""
    part = _couples_in(near, floor)
    if [place for place, _ in part if place == end]:
        return part
    return tuple(sorted(part + ((end, rail),)))


def _halves_by_hole(near, floor, rail):
    """The halves of a FLOOR, that of the YARD in which its HOLE is, no end of the common RAIL, first."""
    ends = _ends_of(near, rail)
    part = _couples_in(near, floor)
    rest = tuple([couple for couple in floor if couple not in part])
    away = [place for place, _ in rest if place in ends]
    # The RAIL has a PLOT of the other YARD exactly if an end has another RAIL of that YARD.
    if away:
        return (tuple(sorted(part + ((away[0], rail),))), rest)
    return (part, tuple(sorted(rest + ((ends[0], rail),))))


def _halves(near, other_near, floor, hole):
    """The pair of the halves of a FLOOR of two YARDS side by side."""
    rail = _rail_of_both(near, other_near)
    ends = _ends_of(near, rail)
    if hole in ends:
        end = ends[1] if hole == ends[0] else ends[0]
        return (_half_by_end(near, floor, end, rail), _half_by_end(other_near, floor, end, rail))
    if hole in near:
        return _halves_by_hole(near, floor, rail)
    return _halves_by_hole(other_near, floor, rail)[::-1]


def halves(yard, other, floor):
    """The pair of a FLOOR of the one YARD and one of the other one of which a FLOOR of both is put together."""
    squares = fit_yard(yard)
    its = fit_yard(other)
    whole = cell_map(joined(squares, its))
    own = fit_floor(whole, floor)
    return _halves(cell_map(squares), cell_map(its), own, hole_in(whole, own))


def put_halves(yard, other, floor, other_floor):
    """The FLOOR of two YARDS side by side of which two FLOORS are the halves."""
    squares = fit_yard(yard)
    its = fit_yard(other)
    whole = cell_map(joined(squares, its))
    near = cell_map(squares)
    other_near = cell_map(its)
    pair = (fit_floor(near, floor), fit_floor(other_near, other_floor))
    rail = _rail_of_both(near, other_near)
    every = sorted(set(pair[0]) | set(pair[1]))
    # A half has at the most one COUPLE, of an end with the RAIL, that the FLOOR has not.
    for end in (None,) + _ends_of(near, rail):
        made = tuple([couple for couple in every if couple != (end, rail)])
        if is_floor_in(whole, made) and _halves(near, other_near, made, hole_in(whole, made)) == pair:
            return made
    raise CanNot()
