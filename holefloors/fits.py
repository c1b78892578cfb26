"""What is passed in, checked: it comes back with tuples for lists, or an error is raised."""

from holefloors.errors import NoCell, NoPlace, Unfit
from holefloors.ground import cell_map, hole_in, is_couple_in, is_floor_in, is_place_in, kind_by_numbers
from holefloors.ground import make_yard
from holefloors.shapes import as_couple, as_couples, as_pair, as_pairs, is_ascending, is_number
from holefloors.trails import laid_of


def is_square_pair(pair):
    """Whether a pair of numbers is a SQUARE."""
    return pair[0] >= 0 and pair[1] >= 0


def yard_or_none(value):
    """The YARD that value is, if need be with lists for tuples; None if it is none."""
    squares = as_pairs(value)
    if squares is None or not all([is_square_pair(square) for square in squares]):
        return None
    return squares if is_ascending(squares) and make_yard(squares) else None


def floor_or_none(near, value):
    """The FLOOR that value is, if need be with lists for tuples; None if it is none."""
    couples = as_couples(value)
    if couples is None or not all([is_couple_in(near, couple) for couple in couples]):
        return None
    return couples if is_ascending(couples) and is_floor_in(near, couples) else None


def fit_yard(value):
    """The YARD that value is."""
    yard = yard_or_none(value)
    if yard is None:
        raise Unfit()
    return yard


def fit_map(value):
    """The map of the CELLS of the YARD that value is."""
    return cell_map(fit_yard(value))


def map_and_place(yard, place):
    """The map of the CELLS of a YARD and a PLACE of it, both still to be checked."""
    near = fit_map(yard)
    own = fit_pair(place)
    need_place(near, own)
    return (near, own)


def map_and_floor(yard, floor):
    """The map of the CELLS of a YARD and a FLOOR of it, both still to be checked."""
    near = fit_map(yard)
    return (near, fit_floor(near, floor))


def map_laid_hole(yard, floor):
    """The map of the CELLS of a YARD, what is laid by a FLOOR of it, its HOLE: both still to be checked."""
    near, own = map_and_floor(yard, floor)
    return (near, laid_of(own), hole_in(near, own))


def fit_squares(value):
    """The tuple, not (), of SQUARES that value is, in any order."""
    squares = as_pairs(value)
    if not squares or not all([is_square_pair(square) for square in squares]):
        raise Unfit()
    return squares


def fit_square(value):
    """The SQUARE, whichever, that value is."""
    square = as_pair(value)
    if square is None or not is_square_pair(square):
        raise Unfit()
    return square


def fit_square_of(yard, value):
    """The SQUARE of the YARD that value is."""
    square = fit_square(value)
    if square not in yard:
        raise Unfit()
    return square


def fit_count(value):
    """The number from 1 that value is."""
    if not is_number(value) or value < 1:
        raise Unfit()
    return value


def fit_number(value):
    """The number that value is."""
    if not is_number(value):
        raise Unfit()
    return value


def fit_number_from_0(value):
    """The number from 0 that value is."""
    if fit_number(value) < 0:
        raise Unfit()
    return value


def fit_pair(value):
    """The pair of numbers that value is."""
    pair = as_pair(value)
    if pair is None:
        raise Unfit()
    return pair


def fit_kind(value):
    """The kind of PLACES that value is."""
    if not isinstance(value, str) or value not in ("post", "plot"):
        raise Unfit()
    return value


def fit_couple(near, value):
    """The COUPLE that value is."""
    couple = as_couple(value)
    if couple is None or not is_couple_in(near, couple):
        raise Unfit()
    return couple


def fit_couples(near, value):
    """The tuple of COUPLES that value is, in any order, maybe one twice."""
    couples = as_couples(value)
    if couples is None or not all([is_couple_in(near, couple) for couple in couples]):
        raise Unfit()
    return couples


def fit_couple_set(near, value):
    """The set of COUPLES that value is."""
    couples = fit_couples(near, value)
    if not is_ascending(couples):
        raise Unfit()
    return couples


def place_or_none(near, value):
    """The PLACE that value is, if need be a list for the tuple; None if it is none."""
    place = as_pair(value)
    return place if place is not None and is_place_in(near, place) else None


def plan_or_none(near, value):
    """The tuple of PLACES that value is, if need be with lists for tuples; None if it is none."""
    plan = as_pairs(value)
    if plan is None or not all([is_place_in(near, place) for place in plan]):
        return None
    return plan


def fit_plan(near, value):
    """The PLAN that value is; whether it can be done is not asked."""
    plan = plan_or_none(near, value)
    if plan is None:
        raise Unfit()
    return plan


def fit_rail_row(near, value):
    """The tuple of RAILS that value is, in any order, maybe one twice."""
    rails = as_pairs(value)
    if rails is None or not all([rail in near and kind_by_numbers(rail) == "rail" for rail in rails]):
        raise Unfit()
    return rails


def fit_rails(near, value):
    """The set of RAILS that value is."""
    rails = fit_rail_row(near, value)
    if not is_ascending(rails):
        raise Unfit()
    return rails


def fit_floor(near, value):
    """The FLOOR that value is."""
    floor = floor_or_none(near, value)
    if floor is None:
        raise Unfit()
    return floor


def need_cell(near, pair):
    """Raises NoCell if the pair is no CELL."""
    if pair not in near:
        raise NoCell(pair)


def need_rail(near, pair):
    """Raises NoCell if the pair is no RAIL."""
    if pair not in near or kind_by_numbers(pair) != "rail":
        raise NoCell(pair)


def need_place(near, pair):
    """Raises NoPlace if the pair is no PLACE."""
    if not is_place_in(near, pair):
        raise NoPlace(pair)
