"""Whether a FLOOR is free or SHUT, and why."""

from holefloors.errors import CanNot
from holefloors.fewest import plan_to, ways
from holefloors.fits import map_laid_hole
from holefloors.ground import kind_by_numbers, places_in
from holefloors.matching import floor_with_hole
from holefloors.rings import is_ring, rings, rings_outward
from holefloors.slides import end_of_plan
from holefloors.trails import floor_of, laid_at, laid_of, tree_steps
from holefloors.yards import inner_posts, posts


def is_free(yard, floor):
    """Whether the FLOOR is free."""
    # With the HOLE at a PLOT a RING of POSTS always goes round it, so one question is enough.
    return not is_shut(yard, floor)


def is_shut(yard, floor):
    """Whether the FLOOR is SHUT."""
    return depth(yard, floor) > 0


def depth(yard, floor):
    """How many RINGS of POSTS the FLOOR has."""
    return len(rings(yard, floor, "post"))


def rim_posts(yard):
    """The set of the POSTS of the rim."""
    inner = inner_posts(yard)
    return tuple([post for post in posts(yard) if post not in inner])


def ring_round(yard, floor):
    """The innermost RING of POSTS."""
    for ring in rings_outward(yard, floor):
        if kind_by_numbers(ring[0]) == "post":
            return ring
    raise CanNot()


def is_ring_round(yard, floor, thing):
    """Whether thing is a RING of POSTS of the FLOOR."""
    return is_ring(yard, floor, thing) and kind_by_numbers(thing[0]) == "post"


def _nearest(yard, floor):
    """The pair of the fewest SLIDES to a POST of the rim and that POST; CanNot if the HOLE comes to none."""
    at_rim = rim_posts(yard)
    pairs = [(number, place) for place, number in ways(yard, floor) if place in at_rim]
    if not pairs:
        raise CanNot()
    return min(pairs)


def why_free(yard, floor):
    """A PLAN by which the HOLE comes, at its end, to a POST of the rim."""
    return plan_to(yard, floor, _nearest(yard, floor)[1])


def is_why_free(yard, floor, thing):
    """Whether thing is a PLAN by which the HOLE comes, at its end, to a POST of the rim."""
    near, laid, hole = map_laid_hole(yard, floor)
    return end_of_plan(near, laid, hole, thing) in rim_posts(yard)


def never_reached(yard, floor):
    """The set of the PLACES of the HOLE's kind to which the HOLE never comes."""
    near, laid, hole = map_laid_hole(yard, floor)
    steps = tree_steps(near, laid, hole)
    return tuple([place for place in places_in(near, kind_by_numbers(hole)) if place not in steps])


def nearest_rim(yard, floor):
    """The fewest SLIDES by which the HOLE comes to a POST of the rim."""
    return _nearest(yard, floor)[0]


def opened(yard, floor):
    """A free FLOOR with the same HOLE."""
    near, _, hole = map_laid_hole(yard, floor)
    if kind_by_numbers(hole) == "plot":
        raise CanNot()
    # Each FLOOR with its HOLE at the rim is free, so from there the HOLE comes to each POST.
    start = rim_posts(yard)[0]
    laid = laid_of(floor_with_hole(near, start))
    return floor_of(laid_at(near, laid, start, hole))
