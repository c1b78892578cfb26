"""How many FLOORS have a told HOLE, by determinants."""

from holefloors.cells import cells, kind_of
from holefloors.lines import many_by_number
from holefloors.tables import determinant, plain_table, table_of
from holefloors.yards import posts


def by_posts(yard, hole):
    """How many FLOORS have this HOLE, by the TABLE for "post"."""
    return many_by_number(hole, "post", determinant(table_of(yard, hole, "post")))


def by_plots(yard, hole):
    """How many FLOORS have this HOLE, by the TABLE for "plot"."""
    return many_by_number(hole, "plot", determinant(table_of(yard, hole, "plot")))


def how_many(yard, hole):
    """How many FLOORS have this HOLE."""
    # There are fewer PLOTS than POSTS, so this TABLE is the smaller one.
    return by_plots(yard, hole)


def free_many(yard):
    """How many free FLOORS have their HOLE at one POST, whichever."""
    return determinant(plain_table(yard, posts(yard)[0], "plot"))


def shut_many(yard, hole):
    """How many SHUT FLOORS have this HOLE."""
    number = how_many(yard, hole)
    return number if kind_of(yard, hole) == "plot" else number - free_many(yard)


def many_each(yard):
    """The list of the pairs (PLACE, how_many), ascending, of all PLACES."""
    own = [cell for cell in cells(yard) if kind_of(yard, cell) != "rail"]
    return [(place, how_many(yard, place)) for place in own]


def many_in_all(yard):
    """How many FLOORS there are, whatever their HOLE."""
    return sum([number for place, number in many_each(yard)])


def fullest(yard):
    """The set of the PLACES with the greatest how_many."""
    pairs = many_each(yard)
    greatest = max([number for place, number in pairs])
    return tuple([place for place, number in pairs if number == greatest])
