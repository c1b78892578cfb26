"""LINES, TABLES and determinants of whole numbers."""

from holefloors.errors import Unfit
from holefloors.fits import fit_kind, fit_map, fit_pair, fit_rails, need_place
from holefloors.lines import line_rails, rails_of_places, table_by_rails
from holefloors.shapes import is_number


def _fit_hole(yard, hole, kind):
    """The map of the CELLS of the YARD, the HOLE and the kind."""
    near = fit_map(yard)
    place = fit_pair(hole)
    own_kind = fit_kind(kind)
    need_place(near, place)
    return (near, place, own_kind)


def line_of(yard, hole, kind):
    """The LINE of a HOLE, for a kind."""
    near, place, own_kind = _fit_hole(yard, hole, kind)
    return line_rails(near, place, own_kind)


def table_of(yard, hole, kind):
    """The TABLE of a HOLE, for a kind."""
    near, place, own_kind = _fit_hole(yard, hole, kind)
    return table_by_rails(rails_of_places(near, place, own_kind), line_rails(near, place, own_kind))


def plain_table(yard, hole, kind):
    """The plain TABLE of a HOLE, for a kind: no sign is turned."""
    near, place, own_kind = _fit_hole(yard, hole, kind)
    return table_by_rails(rails_of_places(near, place, own_kind), ())


def table_by(yard, hole, kind, rails):
    """The TABLE with rails in the place of the LINE."""
    near = fit_map(yard)
    place = fit_pair(hole)
    own_kind = fit_kind(kind)
    turned = fit_rails(near, rails)
    need_place(near, place)
    return table_by_rails(rails_of_places(near, place, own_kind), turned)


def switched(yard, place, rails):
    """The set of the RAILS that are of rails or beside the PLACE, but not both."""
    near = fit_map(yard)
    own = fit_pair(place)
    told = fit_rails(near, rails)
    need_place(near, own)
    beside = near[own]
    return tuple(sorted(
        [rail for rail in told if rail not in beside] + [rail for rail in beside if rail not in told]
    ))


def _fit_table(value):
    """The rows, as lists, of the table of numbers that value is."""
    if not isinstance(value, (list, tuple)):
        raise Unfit()
    for row in value:
        if not isinstance(row, (list, tuple)) or len(row) != len(value):
            raise Unfit()
        if not all([is_number(number) for number in row]):
            raise Unfit()
    return [list(row) for row in value]


def _row_to_begin(rows, step):
    """The first row, from step on, that has no 0 at step; None if there is none."""
    for at in range(step, len(rows)):
        if rows[at][step] != 0:
            return at
    return None


def determinant(table):
    """The determinant, exactly."""
    rows = _fit_table(table)
    many = len(rows)
    sign = 1
    ahead = 1
    for step in range(many):
        at = _row_to_begin(rows, step)
        if at is None:
            return 0
        if at != step:
            rows[step], rows[at] = rows[at], rows[step]
            sign = -sign
        top = rows[step]
        pivot = top[step]
        for low in range(step + 1, many):
            row = rows[low]
            lead = row[step]
            # Bareiss: after this each number is a minor of the table, so the division leaves no rest.
            rows[low] = [(pivot * mine - lead * its) // ahead for mine, its in zip(row, top)]
        ahead = pivot
    return sign * ahead
