"""RINGS of a FLOOR: PLACES that point round, one to the next, about the HOLE."""

from holefloors.errors import CanNot, TooMany, Unfit
from holefloors.fits import fit_kind, fit_pair, map_laid_hole, need_place
from holefloors.floors import MOST_FLOORS
from holefloors.ground import places_in
from holefloors.shapes import as_pairs
from holefloors.trails import floor_of, goal_of, trail


def rings_in(near, laid, kind):
    """The list, ascending, of the RINGS of a kind."""
    found = []
    for place in places_in(near, kind):
        way = trail(near, laid, place)
        last = way[-1]
        # A RING is come upon from each of its PLACES, but it is told from its least one.
        if last in laid and goal_of(near, laid, last) == place and place == min(way):
            found.append(way)
    return found


def _outward_in(near, laid):
    """The list of all RINGS, each within the next one."""
    # A RING begins with a westmost PLACE: of one within another one that is farther east.
    return sorted(rings_in(near, laid, "post") + rings_in(near, laid, "plot"), reverse=True)


def _fit_ring(near, laid, value):
    """The RING that value is."""
    ring = as_pairs(value)
    if ring is None or ring not in _outward_in(near, laid):
        raise Unfit()
    return ring


def _steps_of(ring):
    """The list of the steps of a RING: the pairs of a PLACE and the next one."""
    return list(zip(ring, ring[1:] + ring[:1]))


def _is_within(ring, place):
    """Whether a PLACE lies within a RING."""
    east, north = place
    crossed = [
        begin for begin, end in _steps_of(ring)
        if begin[0] > east and min(begin[1], end[1]) <= north < max(begin[1], end[1])
    ]
    return place not in ring and len(crossed) % 2 == 1


def laid_turned(laid, ring):
    """What is laid once a RING has been turned: each PLACE of it has the RAIL of the one that points to it."""
    now = {place: laid[place] for place in laid}
    for place, after in _steps_of(ring):
        now[after] = laid[place]
    return now


def rings(yard, floor, kind):
    """The list, ascending, of the RINGS of a kind."""
    near, laid, _ = map_laid_hole(yard, floor)
    return rings_in(near, laid, fit_kind(kind))


def is_ring(yard, floor, thing):
    """Whether thing is a RING of the FLOOR."""
    near, laid, _ = map_laid_hole(yard, floor)
    ring = as_pairs(thing)
    # A list is never equal to the tuple that was made of it.
    return ring is not None and ring == thing and ring in _outward_in(near, laid)


def rings_outward(yard, floor):
    """The list of all RINGS, each within the next one."""
    near, laid, _ = map_laid_hole(yard, floor)
    return _outward_in(near, laid)


def innermost(yard, floor):
    """The RING that lies within all others."""
    found = rings_outward(yard, floor)
    if not found:
        raise CanNot()
    return found[0]


def outermost(yard, floor):
    """The RING within which all others lie."""
    found = rings_outward(yard, floor)
    if not found:
        raise CanNot()
    return found[-1]


def lies_within(yard, floor, ring, place):
    """Whether a PLACE lies within a RING."""
    near, laid, _ = map_laid_hole(yard, floor)
    about = _fit_ring(near, laid, ring)
    own = fit_pair(place)
    need_place(near, own)
    return _is_within(about, own)


def places_within(yard, floor, ring):
    """The set of the PLACES, of both kinds, that lie within a RING."""
    near, laid, _ = map_laid_hole(yard, floor)
    about = _fit_ring(near, laid, ring)
    every = sorted(places_in(near, "post") + places_in(near, "plot"))
    return tuple([place for place in every if _is_within(about, place)])


def ring_about(yard, floor, place):
    """The innermost RING within which a PLACE lies."""
    near, laid, _ = map_laid_hole(yard, floor)
    own = fit_pair(place)
    need_place(near, own)
    for ring in _outward_in(near, laid):
        if _is_within(ring, own):
            return ring
    raise CanNot()


def turned_ring(yard, floor, ring):
    """The FLOOR with a RING turned, all else as before."""
    near, laid, _ = map_laid_hole(yard, floor)
    return floor_of(laid_turned(laid, _fit_ring(near, laid, ring)))


def all_turned(yard, floor):
    """The list, ascending, of all FLOORS to which turning RINGS leads, the FLOOR with them."""
    near, laid, _ = map_laid_hole(yard, floor)
    found = _outward_in(near, laid)
    # Each RING lies one way or the other, whatever the others do.
    if 1 << len(found) > MOST_FLOORS:
        raise TooMany()
    every = [laid]
    for ring in found:
        every = every + [laid_turned(own, ring) for own in every]
    return sorted([floor_of(own) for own in every])
