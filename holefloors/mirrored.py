"""YARDS and FLOORS turned and mirrored."""

from holefloors.errors import Unfit
from holefloors.fits import fit_floor, fit_pair, fit_yard, need_cell
from holefloors.ground import all_posts, cell_map, plot_cell, square_of
from holefloors.shapes import is_number

MOVES = 8


def _fit_move(value):
    """The MOVE that value is."""
    if not is_number(value) or not 0 <= value < MOVES:
        raise Unfit()
    return value


def _turned(cell, number):
    """A CELL turned as by a MOVE, about (0, 0), not yet pushed."""
    east, north = cell
    if number >= 4:
        east = -east
    for _ in range(number % 4):
        east, north = -north, east
    return (east, north)


def _push_of(squares, number):
    """The least x and the least y of what the POSTS of SQUARES, turned, come to be."""
    turned = [_turned(post, number) for post in all_posts(squares)]
    return (min([east for east, north in turned]), min([north for east, north in turned]))


def _put(cell, number, push):
    """A CELL turned as by a MOVE, and pushed."""
    east, north = _turned(cell, number)
    return (east - push[0], north - push[1])


def _yard_put(squares, number):
    """The YARD that one comes to be by a MOVE."""
    push = _push_of(squares, number)
    return tuple(sorted([square_of(_put(plot_cell(square), number, push)) for square in squares]))


def _floor_put(squares, floor, number):
    """The FLOOR that one comes to be by a MOVE."""
    push = _push_of(squares, number)
    return tuple(sorted([(_put(place, number, push), _put(rail, number, push)) for place, rail in floor]))


def _own_moves(squares):
    """The set of the MOVES by which a YARD comes to be what it comes to be by MOVE 0."""
    pushed = _yard_put(squares, 0)
    return tuple([number for number in range(MOVES) if _yard_put(squares, number) == pushed])


def _least(squares):
    """The least of the YARDS that one comes to be by MOVES."""
    return min([_yard_put(squares, number) for number in range(MOVES)])


def moved(yard, number):
    """The YARD that one comes to be by a MOVE."""
    squares = fit_yard(yard)
    return _yard_put(squares, _fit_move(number))


def cell_moved(yard, cell, number):
    """The CELL that one comes to be by a MOVE of the YARD."""
    squares = fit_yard(yard)
    own = fit_pair(cell)
    move = _fit_move(number)
    need_cell(cell_map(squares), own)
    return _put(own, move, _push_of(squares, move))


def floor_moved(yard, floor, number):
    """The FLOOR that one comes to be by a MOVE of the YARD."""
    squares = fit_yard(yard)
    laid = fit_floor(cell_map(squares), floor)
    return _floor_put(squares, laid, _fit_move(number))


def move_back(number):
    """The MOVE by which all is again as it was ahead of a MOVE, but pushed."""
    move = _fit_move(number)
    # What was mirrored and then turned comes back by the same mirroring and turning.
    return move if move >= 4 else (4 - move) % 4


def moves_put(number, many):
    """The MOVE that is as two MOVES, one behind the other."""
    first = _fit_move(number)
    second = _fit_move(many)
    # What was turned ahead of a mirroring is turned the other way behind it; four quarters more are none.
    quarters = second - first if second >= 4 else second + first
    mirrored = (first >= 4) != (second >= 4)
    return quarters % 4 + (4 if mirrored else 0)


def moves_of(yard):
    """The set of the MOVES by which the YARD comes to be what it comes to be by MOVE 0."""
    return _own_moves(fit_yard(yard))


def seen_alike(yard, other):
    """Whether some MOVE makes of one YARD what MOVE 0 makes of the other one."""
    squares = fit_yard(yard)
    return _least(squares) == _least(fit_yard(other))


def least_seen(yard):
    """The least of all YARDS that one comes to be by MOVES."""
    return _least(fit_yard(yard))


def floors_alike(yard, floor, other):
    """Whether one of moves_of(yard) makes of a FLOOR what MOVE 0 makes of the other one."""
    squares = fit_yard(yard)
    near = cell_map(squares)
    laid = fit_floor(near, floor)
    goal = _floor_put(squares, fit_floor(near, other), 0)
    return goal in [_floor_put(squares, laid, number) for number in _own_moves(squares)]
