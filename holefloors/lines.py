"""LINES, and TABLES by the RAILS that count. All functions here take what has been checked."""

from holefloors.ground import beyond, kind_by_numbers, places_in


def line_rails(near, hole, kind):
    """The LINE: half a CELL north of a HOLE it crosses RAILS for "post", else the RAILS between PLOTS."""
    east, north = hole
    level = north + 1 - north % 2 if kind == "post" else north - north % 2
    return tuple([
        cell for cell in near
        if cell[0] > east and cell[1] == level and kind_by_numbers(cell) == "rail"
    ])


def rails_of_places(near, hole, kind):
    """A dict of the PLACES of a kind but the HOLE, ascending, each with the RAILS beside it."""
    return {place: near[place] for place in places_in(near, kind) if place != hole}


def told_rails_of_places(near, hole, told):
    """The same for the kind of the PLACES of COUPLES, not (): each of these PLACES has its told RAIL alone."""
    rails = rails_of_places(near, hole, kind_by_numbers(told[0][0]))
    for place, rail in told:
        rails[place] = (rail,)
    return rails


def row_by_rails(places, place, rails, turned):
    """The row of a PLACE in a TABLE in which these RAILS of it count, those of turned with the other sign."""
    entries = {beyond(place, rail): 1 if rail in turned else -1 for rail in rails}
    entries[place] = len(rails)
    return tuple([entries.get(other, 0) for other in places])


def table_by_rails(rails, turned):
    """The TABLE for a dict of PLACES, each with the RAILS that count."""
    places = list(rails)
    return tuple([row_by_rails(places, place, rails[place], turned) for place in places])


def many_by_number(hole, kind, number):
    """How many FLOORS with this HOLE the determinant of a TABLE for a kind tells."""
    if kind_by_numbers(hole) == "post":
        return number
    # A TABLE counts 2 for each RING of its kind, for the RINGS of the other kind that lie two ways between
    # these; at a PLOT there is one RING of POSTS more than there are RINGS of PLOTS.
    return number // 2 if kind == "post" else 2 * number
