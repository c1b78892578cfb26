"""FLOORS that have told COUPLES: how many, one of them, or what bars them."""

from holefloors.errors import CanNot
from holefloors.fits import fit_couple, fit_couple_set, fit_map, fit_pair, floor_or_none, need_place
from holefloors.ground import hole_in, is_place_in, kind_by_numbers
from holefloors.lines import line_rails, many_by_number, rails_of_places, table_by_rails, told_rails_of_places
from holefloors.matching import floor_with, matched, open_rails_of, reached_by
from holefloors.shapes import as_pairs, is_ascending
from holefloors.tables import determinant


def _fit_told(yard, hole, told):
    """The map of the CELLS of a YARD, a HOLE of it and TOLD."""
    near = fit_map(yard)
    place = fit_pair(hole)
    couples = fit_couple_set(near, told)
    need_place(near, place)
    return (near, place, couples)


def clash_of(near, hole, couples):
    """The least clash; None if there is none."""
    times = {hole: 1}
    for couple in couples:
        for cell in couple:
            times[cell] = times.get(cell, 0) + 1
    return min([cell for cell in times if times[cell] > 1], default=None)


def many_that_have(near, hole, couples):
    """How many FLOORS have COUPLES of PLACES of one kind."""
    if clash_of(near, hole, couples) is not None:
        return 0
    kind = kind_by_numbers(couples[0][0]) if couples else "plot"
    rails = told_rails_of_places(near, hole, couples) if couples else rails_of_places(near, hole, kind)
    return many_by_number(hole, kind, determinant(table_by_rails(rails, line_rails(near, hole, kind))))


def _need_one_kind(couples):
    """Raises CanNot if COUPLES have PLACES of both kinds."""
    if len({kind_by_numbers(place) for place, rail in couples}) > 1:
        raise CanNot()


def _finished(near, hole, couples):
    """A FLOOR that has TOLD; None if there is none."""
    return None if clash_of(near, hole, couples) is not None else floor_with(near, hole, couples)


def clash(yard, hole, told):
    """The least CELL that stands in two COUPLES of TOLD, or is the HOLE and stands in one."""
    near, place, couples = _fit_told(yard, hole, told)
    found = clash_of(near, place, couples)
    if found is None:
        raise CanNot()
    return found


def many_with(yard, hole, told):
    """How many FLOORS have TOLD, COUPLES of PLACES of one kind."""
    near, place, couples = _fit_told(yard, hole, told)
    _need_one_kind(couples)
    return many_that_have(near, place, couples)


def share_with(yard, hole, told, couple):
    """The pair of how many FLOORS have TOLD and the COUPLE, and how many have TOLD."""
    near = fit_map(yard)
    place = fit_pair(hole)
    couples = fit_couple_set(near, told)
    more = tuple(sorted({own for own in couples + (fit_couple(near, couple),)}))
    need_place(near, place)
    _need_one_kind(more)
    whole = many_that_have(near, place, couples)
    if whole == 0:
        raise CanNot()
    return (many_that_have(near, place, more), whole)


def can_finish(yard, hole, told):
    """Whether some FLOOR has TOLD."""
    near, place, couples = _fit_told(yard, hole, told)
    return _finished(near, place, couples) is not None


def finished(yard, hole, told):
    """A FLOOR that has TOLD."""
    near, place, couples = _fit_told(yard, hole, told)
    floor = _finished(near, place, couples)
    if floor is None:
        raise CanNot()
    return floor


def is_finished(yard, hole, told, thing):
    """Whether thing is a FLOOR that has TOLD."""
    near, place, couples = _fit_told(yard, hole, told)
    floor = floor_or_none(near, thing)
    # A list is never equal to the tuple that was made of it.
    if floor is None or floor != thing or hole_in(near, floor) != place:
        return False
    return all([couple in floor for couple in couples])


def why_not(yard, hole, told):
    """A LOT that bars TOLD."""
    near, place, couples = _fit_told(yard, hole, told)
    if clash_of(near, place, couples) is not None:
        raise CanNot()
    lacking = matched(open_rails_of(near, place, couples))[1]
    if not lacking:
        raise CanNot()
    return lacking


def _bars(near, taken, cells):
    """Whether CELLS, not (), are all PLACES or all RAILS, none of them taken, with too few beside them not taken."""
    if not all([cell in near and cell not in taken for cell in cells]):
        return False
    if len({is_place_in(near, cell) for cell in cells}) != 1:
        return False
    return len({other for cell in cells for other in near[cell] if other not in taken}) < len(cells)


def is_why_not(yard, hole, told, thing):
    """Whether thing is a LOT that bars TOLD, these without a clash."""
    near, place, couples = _fit_told(yard, hole, told)
    cells = as_pairs(thing)
    # A list is never equal to the tuple that was made of it.
    if not cells or cells != thing or not is_ascending(cells):
        return False
    taken = {cell: True for couple in couples for cell in couple}
    taken[place] = True
    return clash_of(near, place, couples) is None and _bars(near, taken, cells)


def _in_some(near, hole, couples):
    """The set of the COUPLES that some FLOOR has that has TOLD; CanNot if there is none."""
    floor = _finished(near, hole, couples)
    if floor is None:
        raise CanNot()
    open_rails = open_rails_of(near, hole, couples)
    rails = {place: rail for place, rail in floor if place in open_rails}
    holders = {rail: place for place, rail in rails.items()}
    reached = reached_by(open_rails, rails)
    # A PLACE can take a RAIL if the one that has it comes, RAIL by RAIL, to that which the PLACE gives up.
    return tuple(sorted(list(couples) + [
        (place, rail) for place in open_rails for rail in open_rails[place] if place in reached[holders[rail]]
    ]))


def couples_in_all(yard, hole, told):
    """The set of the COUPLES that all FLOORS have that have TOLD."""
    near, place, couples = _fit_told(yard, hole, told)
    found = _in_some(near, place, couples)
    times = {}
    for own, _ in found:
        times[own] = times.get(own, 0) + 1
    return tuple([couple for couple in found if times[couple[0]] == 1])


def couples_in_some(yard, hole, told):
    """The set of the COUPLES that some FLOOR has that has TOLD."""
    near, place, couples = _fit_told(yard, hole, told)
    return _in_some(near, place, couples)
