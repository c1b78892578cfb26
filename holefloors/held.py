"""STILLS: what never moves from a FLOOR, told without the FLOOR, and why a set of COUPLES is none."""

from holefloors.counts import free_many
from holefloors.errors import CanNot, Unfit
from holefloors.fits import fit_couple_set, fit_map, fit_number, fit_pair, need_place
from holefloors.ground import beyond, is_couple_in, is_place_in, kind_by_numbers
from holefloors.lots import floors_by_still
from holefloors.shapes import as_couples, as_pairs, is_ascending


def _left_of(near, couples):
    """The tuple, ascending, of the CELLS that are of none of the COUPLES."""
    taken = {cell: True for couple in couples for cell in couple}
    return tuple([cell for cell in near if cell not in taken])


def _of_kind(own, kind):
    """The tuple of those CELLS that are of a kind."""
    return tuple([cell for cell in own if kind_by_numbers(cell) == kind])


def _hanging(near, own, start):
    """A dict of the PLACES that hang together with start by RAILS that each join two PLACES, all of them of own.

    Each PLACE stands with the RAIL by which it was come to, start with None.
    """
    kept = {cell: True for cell in own}
    came = {start: None}
    front = [start]
    while front:
        here = front.pop()
        for rail in near[here]:
            there = beyond(here, rail)
            if rail in kept and there in kept and there not in came:
                came[there] = rail
                front.append(there)
    return came


def _joins_two(near, own, rail, kind):
    """Whether a RAIL is beside two PLACES of a kind that are both of own."""
    return len([place for place in near[rail] if kind_by_numbers(place) == kind and place in own]) == 2


def _why_twice(couples):
    """The REASON that two of the COUPLES have one CELL; None if there is none."""
    seen = {}
    for couple in couples:
        for cell in couple:
            if cell in seen:
                return ("twice", cell)
            seen[cell] = True
    return None


def _why_left(near, own):
    """The REASON that what is left is no tree of PLACES of one kind; None if there is none."""
    both = _of_kind(own, "post")[:1] + _of_kind(own, "plot")[:1]
    if len(both) == 2:
        return ("kinds",) + both
    first = both[0]
    kind = kind_by_numbers(first)
    for rail in _of_kind(own, "rail"):
        if not _joins_two(near, own, rail, kind):
            return ("loose", first, rail)
    came = _hanging(near, own, first)
    for place in _of_kind(own, kind):
        if place not in came:
            return ("apart", first, place)
    return None


def _why_comes(couples, own):
    """The REASON that one of the COUPLES points to a PLACE that is left; None if there is none."""
    for place, rail in couples:
        if beyond(place, rail) in own:
            return ("comes", place, rail)
    return None


def _why_none(near, couples):
    """A REASON why a set of COUPLES is no STILL; None if it is one."""
    twice = _why_twice(couples)
    if twice is not None:
        return twice
    own = _left_of(near, couples)
    found = _why_left(near, own)
    return _why_comes(couples, own) if found is None else found


def _fit_still(near, value):
    """The STILL that value is."""
    couples = fit_couple_set(near, value)
    if _why_none(near, couples) is not None:
        raise Unfit()
    return couples


def is_still(yard, thing):
    """Whether thing is a STILL of the YARD."""
    near = fit_map(yard)
    couples = as_couples(thing)
    # A list is never equal to the tuple that was made of it.
    if couples is None or couples != thing or not is_ascending(couples):
        return False
    return all([is_couple_in(near, couple) for couple in couples]) and _why_none(near, couples) is None


def left(yard, still):
    """The set of the PLACES that are left."""
    near = fit_map(yard)
    return tuple([cell for cell in _left_of(near, _fit_still(near, still)) if is_place_in(near, cell)])


def rails_left(yard, still):
    """The set of the RAILS that are left."""
    near = fit_map(yard)
    return _of_kind(_left_of(near, _fit_still(near, still)), "rail")


def kind_left(yard, still):
    """The kind of the PLACES that are left."""
    return kind_by_numbers(left(yard, still)[0])


def _floor_in(near, couples, place):
    """The FLOOR that has a STILL and its HOLE at a PLACE that is left."""
    came = _hanging(near, _left_of(near, couples), place)
    return tuple(sorted(list(couples) + [(own, rail) for own, rail in came.items() if rail is not None]))


def floor_by(yard, still, place):
    """The FLOOR that has the STILL and its HOLE at a PLACE."""
    near = fit_map(yard)
    couples = _fit_still(near, still)
    hole = fit_pair(place)
    need_place(near, hole)
    if hole not in _left_of(near, couples):
        raise CanNot()
    return _floor_in(near, couples, hole)


def floors_by(yard, still):
    """The list of the FLOORS that have the STILL, by HOLES ascending."""
    near = fit_map(yard)
    couples = _fit_still(near, still)
    own = _left_of(near, couples)
    return [_floor_in(near, couples, cell) for cell in own if is_place_in(near, cell)]


def all_stills(yard, kind):
    """The list, ascending, of all STILLS with PLACES of a kind left."""
    return sorted(floors_by_still(yard, kind))


def lots_of_size(yard, kind, number):
    """How many STILLS have so many PLACES of a kind left."""
    # All that is unfit raises one error, so the number may be looked at first: it is to be told ahead of TooMany.
    many = fit_number(number)
    # There is one FLOOR for each PLACE that is left.
    return len([family for family in floors_by_still(yard, kind).values() if len(family) == many])


def free_lots(yard):
    """How many STILLS have all POSTS left."""
    # They are the lots of free FLOORS, each of which has one FLOOR with its HOLE at a told POST.
    return free_many(yard)


def why_no_still(yard, couples):
    """A REASON why a set of COUPLES is no STILL."""
    near = fit_map(yard)
    reason = _why_none(near, fit_couple_set(near, couples))
    if reason is None:
        raise CanNot()
    return reason


def _is_why_left(near, own, word, cell, other):
    """Whether two CELLS that are left are a REASON of a told kind."""
    kinds = (kind_by_numbers(cell), kind_by_numbers(other))
    if word == "kinds":
        return kinds == ("post", "plot")
    if kinds[0] == "rail":
        return False
    if word == "loose":
        return kinds[1] == "rail" and not _joins_two(near, own, other, kinds[0])
    return word == "apart" and cell < other and kinds[0] == kinds[1] and other not in _hanging(near, own, cell)


def is_why_no_still(yard, couples, thing):
    """Whether thing is a REASON why a set of COUPLES is no STILL."""
    near = fit_map(yard)
    told = fit_couple_set(near, couples)
    if not isinstance(thing, tuple) or not 2 <= len(thing) <= 3:
        return False
    own_cells = as_pairs(thing[1:])
    if own_cells is None or own_cells != thing[1:]:
        return False
    word = thing[0]
    if len(own_cells) == 1:
        return word == "twice" and len([couple for couple in told if own_cells[0] in couple]) > 1
    cell, other = own_cells
    own = _left_of(near, told)
    if word == "comes":
        return own_cells in told and beyond(cell, other) in own
    return cell in own and other in own and _is_why_left(near, own, word, cell, other)
