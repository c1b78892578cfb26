"""FLOORS that lead to one another."""

from holefloors.errors import CanNot, Unfit
from holefloors.fewest import plan_to
from holefloors.fits import fit_floor, fit_map, map_laid_hole
from holefloors.floors import hole_of
from holefloors.lots import are_of_one
from holefloors.shapes import as_couple
from holefloors.slides import end_of_plan
from holefloors.trails import floor_of, never_in


def can_lead(yard, floor, other):
    """Whether a PLAN leads from one FLOOR to the other one."""
    return are_of_one(yard, floor, other)


def lead_to(yard, floor, other):
    """The shortest PLAN that leads from one FLOOR to the other one."""
    if not can_lead(yard, floor, other):
        raise CanNot()
    return plan_to(yard, floor, hole_of(yard, other))


def slides_apart(yard, floor, other):
    """How many SLIDES the shortest PLAN has that leads from one FLOOR to the other one."""
    return len(lead_to(yard, floor, other))


def is_lead(yard, floor, other, thing):
    """Whether thing is a PLAN that leads from one FLOOR to the other one."""
    near, laid, hole = map_laid_hole(yard, floor)
    goal = fit_floor(near, other)
    return end_of_plan(near, laid, hole, thing) is not None and floor_of(laid) == goal


def _barring(yard, floor, other):
    """The list of the COUPLES that never move from one FLOOR and are none of the other one."""
    near, laid, hole = map_laid_hole(yard, floor)
    goal = fit_floor(near, other)
    return [couple for couple in never_in(near, laid, hole) if couple not in goal]


def why_apart(yard, floor, other):
    """A COUPLE that never moves from one FLOOR and is none of the other one."""
    found = _barring(yard, floor, other)
    if not found:
        raise CanNot()
    return found[0]


def is_why_apart(yard, floor, other, thing):
    """Whether thing is a COUPLE that never moves from one FLOOR and is none of the other one."""
    found = _barring(yard, floor, other)
    couple = as_couple(thing)
    # A list is never equal to the tuple that was made of it.
    return couple is not None and couple == thing and couple in found


def led_by_all(yard, floor, others):
    """The set of the numbers at which those FLOORS stand in others to which the FLOOR leads."""
    near = fit_map(yard)
    own = fit_floor(near, floor)
    if not isinstance(others, (list, tuple)):
        raise Unfit()
    goals = [fit_floor(near, other) for other in others]
    return tuple([number for number, goal in enumerate(goals) if can_lead(yard, own, goal)])
