"""RAILS given to PLACES, one to each: FLOORS found without going through them.

open_rails is a dict of the PLACES that still need a RAIL, each with the RAILS that it may have.
"""

from holefloors.ground import kind_by_numbers


def open_rails_of(near, hole, told):
    """The PLACES that are neither the HOLE nor of COUPLES, each with the RAILS beside it that are of none of these."""
    taken = {cell: True for couple in told for cell in couple}
    taken[hole] = True
    return {
        place: [rail for rail in near[place] if rail not in taken]
        for place in near if place not in taken and kind_by_numbers(place) != "rail"
    }


def _search(open_rails, holders, start):
    """The RAIL that no PLACE has yet, and from which PLACE each RAIL was come to, from start on."""
    came = {}
    front = [start]
    while front:
        place = front.pop()
        for rail in open_rails[place]:
            if rail in came:
                continue
            came[rail] = place
            if rail not in holders:
                return (rail, came)
            front.append(holders[rail])
    return (None, came)


def _hand_on(rails, holders, rail, came):
    """Gives the RAIL to the PLACE from which it was come to, and its RAIL likewise, up to the start."""
    while rail is not None:
        place = came[rail]
        given_up = rails.get(place)
        rails[place] = rail
        holders[rail] = place
        rail = given_up


def matched(open_rails):
    """The dict of the PLACES, each with a RAIL of its own, and (); or that so far, and PLACES with too few RAILS."""
    rails = {}
    holders = {}
    for place in open_rails:
        rail, came = _search(open_rails, holders, place)
        if rail is None:
            # Each RAIL come to has a holder among those searched from: so these have one RAIL too few.
            return (rails, tuple(sorted([place] + [holders[other] for other in came])))
        _hand_on(rails, holders, rail, came)
    return (rails, ())


def floor_with(near, hole, told):
    """A FLOOR with this HOLE and these COUPLES, which have no CELL twice and not the HOLE; None if there is none."""
    rails, lacking = matched(open_rails_of(near, hole, told))
    return None if lacking else tuple(sorted(list(told) + list(rails.items())))


def floor_with_hole(near, hole):
    """A FLOOR with this HOLE, a PLACE: there is one for each."""
    return floor_with(near, hole, ())


def reached_by(open_rails, rails):
    """A dict of the PLACES, each with a dict of those that give a RAIL up if it takes others' RAILS, one by one."""
    holders = {rail: place for place, rail in rails.items()}
    found = {}
    for start in open_rails:
        passed = {start: True}
        front = [start]
        while front:
            here = front.pop()
            for rail in open_rails[here]:
                holder = holders[rail]
                if holder not in passed:
                    passed[holder] = True
                    front.append(holder)
        found[start] = passed
    return found
