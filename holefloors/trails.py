"""Arrows, and SLIDES against them, in a FLOOR. All functions here take what has been checked.

A FLOOR is told by laid, a dict of its PLACES, each with the RAIL of its COUPLE: a SLIDE is one step in it.
"""

from holefloors.ground import beyond


def laid_of(floor):
    """The dict of the PLACES of a FLOOR, each with the RAIL of its COUPLE."""
    return {place: rail for place, rail in floor}


def floor_of(laid):
    """The FLOOR whose PLACES are laid so."""
    return tuple(sorted(list(laid.items())))


def goal_of(near, laid, place):
    """To where the arrow of a PLACE but the HOLE leads, None for out."""
    goal = beyond(place, laid[place])
    return goal if goal in near else None


def trail(near, laid, place):
    """The tuple of the PLACES from a PLACE on, arrow by arrow, as long as none comes twice."""
    passed = {place: True}
    here = place
    while here in laid:
        here = goal_of(near, laid, here)
        if here is None or here in passed:
            break
        passed[here] = True
    return tuple(passed)


def pointing_to(near, laid, goal):
    """The set of the PLACES whose arrows lead to a PLACE."""
    over = [(beyond(goal, rail), rail) for rail in near[goal]]
    return tuple([place for place, rail in over if laid.get(place) == rail])


def tree_steps(near, laid, hole):
    """A dict of the PLACES of the TREE, each with how many arrows lead from it to the HOLE."""
    steps = {hole: 0}
    front = [hole]
    while front:
        here = front.pop()
        for place in pointing_to(near, laid, here):
            steps[place] = steps[here] + 1
            front.append(place)
    return steps


def never_in(near, laid, hole):
    """The set of the COUPLES that no SLIDE ever moves: each PLACE of the TREE comes to be the HOLE."""
    steps = tree_steps(near, laid, hole)
    return tuple([couple for couple in floor_of(laid) if couple[0] not in steps])


def slide_to(laid, hole, place):
    """Slides the piece of a PLACE whose arrow leads to the HOLE: that PLACE is the HOLE then."""
    laid[hole] = laid[place]
    del laid[place]


def do_plan(near, laid, hole, plan):
    """Does a PLAN in what is laid: the number of the first PLACE to which no SLIDE leads, None if all are done."""
    free = hole
    for number, place in enumerate(plan):
        if place not in laid or goal_of(near, laid, place) != free:
            return number
        slide_to(laid, free, place)
        free = place
    return None


def way_to(near, laid, place):
    """The PLAN with the fewest SLIDES to a PLACE of the TREE: against the arrows that lead home from it."""
    return trail(near, laid, place)[-2::-1]


def laid_at(near, laid, hole, place):
    """What is laid once the HOLE has come to a PLACE of the TREE."""
    now = {own: laid[own] for own in laid}
    do_plan(near, now, hole, way_to(near, laid, place))
    return now
