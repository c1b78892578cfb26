"""RAILS given to PLACES, one to each: FLOORS found without going through them."""

from holefloors.ground import kind_by_numbers


def _search(near, holders, start):
    """The RAIL that no PLACE has yet, and from which PLACE each RAIL was come to, from start on."""
    came = {}
    front = [start]
    while front:
        place = front.pop()
        for rail in near[place]:
            if rail in came:
                continue
            came[rail] = place
            if rail not in holders:
                return (rail, came)
            front.append(holders[rail])
    return (None, came)


def _hand_on(rails, holders, rail, came):
    """Gives the RAIL to the PLACE from which it was come to, and its RAIL likewise, up to the start."""
    while rail is not None:
        place = came[rail]
        given_up = rails.get(place)
        rails[place] = rail
        holders[rail] = place
        rail = given_up


def floor_with_hole(near, hole):
    """A FLOOR with this HOLE, a PLACE: there is one for each."""
    rails = {}
    holders = {}
    for place in near:
        if place != hole and kind_by_numbers(place) != "rail":
            rail, came = _search(near, holders, place)
            _hand_on(rails, holders, rail, came)
    return tuple(sorted(list(rails.items())))
