"""SLIDES of a FLOOR, one behind the other: PLANS."""

from holefloors.errors import Broken, CanNot
from holefloors.fits import fit_pair, fit_plan, map_laid_hole, need_place, plan_or_none
from holefloors.trails import do_plan, floor_of, pointing_to, way_to


def _do(near, laid, hole, plan):
    """Does a PLAN in what is laid; Broken if it can not be done."""
    number = do_plan(near, laid, hole, plan)
    if number is not None:
        raise Broken(number)


def end_of_plan(near, laid, hole, thing):
    """The HOLE to which thing leads if it is a PLAN, which is done in what is laid; None if it is none."""
    plan = plan_or_none(near, thing)
    # A list is never equal to the tuple that was made of it.
    if plan is None or plan != thing or do_plan(near, laid, hole, plan) is not None:
        return None
    return plan[-1] if plan else hole


def slides(yard, floor):
    """The set of the PLACES to which a SLIDE leads."""
    near, laid, hole = map_laid_hole(yard, floor)
    return pointing_to(near, laid, hole)


def slid(yard, floor, place):
    """The FLOOR behind the SLIDE to a PLACE."""
    near, laid, hole = map_laid_hole(yard, floor)
    goal = fit_pair(place)
    need_place(near, goal)
    if do_plan(near, laid, hole, (goal,)) is not None:
        raise CanNot()
    return floor_of(laid)


def behind(yard, floor, plan):
    """The FLOOR behind all SLIDES of a PLAN."""
    near, laid, hole = map_laid_hole(yard, floor)
    _do(near, laid, hole, fit_plan(near, plan))
    return floor_of(laid)


def holes_along(yard, floor, plan):
    """The tuple of the HOLES along a PLAN, that of the FLOOR first."""
    near, laid, hole = map_laid_hole(yard, floor)
    goals = fit_plan(near, plan)
    _do(near, laid, hole, goals)
    return (hole,) + goals


def is_plan(yard, floor, thing):
    """Whether thing is a PLAN that can be done from the FLOOR."""
    near, laid, hole = map_laid_hole(yard, floor)
    return end_of_plan(near, laid, hole, thing) is not None


def contrary(yard, floor, plan):
    """The PLAN that leads back from behind a PLAN, through the same FLOORS."""
    return holes_along(yard, floor, plan)[-2::-1]


def moved_by(yard, floor, plan):
    """The set of the COUPLES of the FLOOR that do not stand behind a PLAN."""
    near, laid, hole = map_laid_hole(yard, floor)
    begin = floor_of(laid)
    _do(near, laid, hole, fit_plan(near, plan))
    return tuple([(place, rail) for place, rail in begin if laid.get(place) != rail])


def shortened(yard, floor, plan):
    """The PLAN with the fewest SLIDES that leads where a PLAN does."""
    end = holes_along(yard, floor, plan)[-1]
    near, laid, _ = map_laid_hole(yard, floor)
    return way_to(near, laid, end)
