"""How many RINGS of POSTS the FLOORS with one HOLE have, all told by one polynomial."""

from math import gcd

from holefloors.fits import fit_number, map_and_place
from holefloors.ground import beyond, kind_by_numbers
from holefloors.lines import line_rails, rails_of_places, table_by_rails
from holefloors.tables import determinant


def _rails_to_out(near, hole):
    """How many RAILS are crossed at the fewest on the way out from the HOLE: each RING of POSTS has one of them."""
    east, north = hole
    if kind_by_numbers(hole) == "plot":
        front = [hole]
    else:
        front = [(east + right, north + up) for right in (-1, 1) for up in (-1, 1)]
    crossed = 0
    while all([cell in near for cell in front]):
        crossed += 1
        front = sorted({beyond(plot, rail) for plot in front for rail in near[plot]})
    return crossed


def _number_by_weight(near, hole, most, weight):
    """The determinant of the POSTS' TABLE with this weight for z, times the weight as often as there may be RINGS."""
    rails = rails_of_places(near, hole, "post")
    at_of = {post: at for at, post in enumerate(rails)}
    rows = [list(row) for row in table_by_rails(rails, ())]
    line = line_rails(near, hole, "post")
    for east, north in line:
        low = at_of[(east, north - 1)]
        high = at_of[(east, north + 1)]
        rows[low][high] = -weight
        # A whole row times the weight, so that no number in it is a fraction.
        rows[high] = [weight * entry for entry in rows[high]]
        rows[high][low] = -1
    number = determinant(rows)
    for _ in range(len(line) - most):
        number //= weight
    return number


def _powers(base, most):
    """The powers of a number, from that of 0 to that of most."""
    found = [1]
    for _ in range(most):
        found.append(found[-1] * base)
    return found


def _solved(rows, numbers):
    """The whole numbers that, each times its entry, make of each row its number: by Cramer's rule."""
    whole = determinant(rows)
    found = []
    for at in range(len(rows)):
        put_in = [row[:at] + [number] + row[at + 1:] for row, number in zip(rows, numbers)]
        found.append(determinant(put_in) // whole)
    return found


def _ways(near, hole):
    """The tuple with, for each number of RINGS, how many sets of POSTS' COUPLES there are, turned ones as one."""
    most = _rails_to_out(near, hole)
    rows = []
    numbers = []
    for weight in range(1, most + 2):
        # 2 - z - 1/z is this number over z.
        times = _powers(-(weight - 1) * (weight - 1), most)
        below = _powers(weight, most)[::-1]
        rows.append([over * under for over, under in zip(times, below)])
        numbers.append(_number_by_weight(near, hole, most, weight))
    found = _solved(rows, numbers)
    while found[-1] == 0:
        found.pop()
    return tuple(found)


def _counts(near, hole):
    """The tuple with, for each number of RINGS, how many FLOORS have so many."""
    # RINGS of POSTS lie two ways each, and so do those of PLOTS, of which there is one fewer round a PLOT.
    both = [many << 2 * number for number, many in enumerate(_ways(near, hole))]
    return tuple(both if kind_by_numbers(hole) == "post" else [many // 2 for many in both])


def ring_counts(yard, hole):
    """The tuple with, for each number from 0 to the greatest, how many FLOORS have so many RINGS."""
    near, place = map_and_place(yard, hole)
    return _counts(near, place)


def ring_ways(yard, hole):
    """Likewise how many sets of POSTS' COUPLES these have, those that are alike but for turned RINGS being one."""
    near, place = map_and_place(yard, hole)
    return _ways(near, place)


def most_rings(yard, hole):
    """The greatest number of RINGS of a FLOOR with this HOLE."""
    return len(ring_counts(yard, hole)) - 1


def many_with_rings(yard, hole, number):
    """How many FLOORS with this HOLE have just so many RINGS."""
    # All that is unfit raises one error, so the number may be looked at first: it is to be told ahead of NoPlace.
    many = fit_number(number)
    counts = ring_counts(yard, hole)
    return counts[many] if 0 <= many < len(counts) else 0


def mean_rings(yard, hole):
    """The RINGS of all FLOORS with this HOLE, added up, over how many FLOORS there are, made least."""
    counts = ring_counts(yard, hole)
    rings = sum([number * many for number, many in enumerate(counts)])
    floors = sum(counts)
    common = gcd(rings, floors)
    return (rings // common, floors // common)
