"""The fewest SLIDES that bring the HOLE to a PLACE."""

from holefloors.errors import CanNot
from holefloors.fits import fit_pair, map_laid_hole, need_place
from holefloors.slides import end_of_plan
from holefloors.trails import laid_at, tree_steps, way_to


def _need_of_tree(near, steps, goals):
    """Raises NoPlace for the first of goals that is no PLACE, else CanNot if one is not of the TREE."""
    for goal in goals:
        need_place(near, goal)
    if not all([goal in steps for goal in goals]):
        raise CanNot()


def _tree_and_goal(yard, floor, place):
    """The map of the CELLS, what is laid, the HOLE, and a PLACE of the TREE."""
    near, laid, hole = map_laid_hole(yard, floor)
    goal = fit_pair(place)
    _need_of_tree(near, tree_steps(near, laid, hole), (goal,))
    return (near, laid, hole, goal)


def fewest(yard, floor, place):
    """How many SLIDES at the fewest bring the HOLE to a PLACE."""
    return len(plan_to(yard, floor, place))


def plan_to(yard, floor, place):
    """The PLAN of the fewest SLIDES that brings the HOLE to a PLACE."""
    near, laid, _, goal = _tree_and_goal(yard, floor, place)
    return way_to(near, laid, goal)


def is_plan_to(yard, floor, place, thing):
    """Whether thing is a PLAN that brings the HOLE to a PLACE."""
    near, laid, hole, goal = _tree_and_goal(yard, floor, place)
    return end_of_plan(near, laid, hole, thing) == goal


def ways(yard, floor):
    """The tuple of the pairs (place, number) of the PLACES of the TREE and the fewest SLIDES to them, ascending."""
    near, laid, hole = map_laid_hole(yard, floor)
    return tuple(sorted(list(tree_steps(near, laid, hole).items())))


def farthest(yard, floor):
    """The pair of the greatest number of ways(yard, floor) and the set of the PLACES that have it."""
    pairs = ways(yard, floor)
    greatest = max([number for place, number in pairs])
    return (greatest, tuple([place for place, number in pairs if number == greatest]))


def between(yard, floor, place, other):
    """How many SLIDES at the fewest bring the HOLE from one PLACE of the TREE to another one."""
    near, laid, hole = map_laid_hole(yard, floor)
    start = fit_pair(place)
    goal = fit_pair(other)
    _need_of_tree(near, tree_steps(near, laid, hole), (start, goal))
    return len(way_to(near, laid_at(near, laid, hole, start), goal))


def widest(yard, floor):
    """The greatest of the numbers of SLIDES between any two PLACES of the TREE."""
    near, laid, hole = map_laid_hole(yard, floor)
    # In a tree what is farthest from any PLACE is an end of a longest way.
    end = farthest(yard, floor)[1][0]
    return max(list(tree_steps(near, laid_at(near, laid, hole, end), end).values()))
