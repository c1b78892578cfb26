"""What the tests share: yards, examples read as they stand in the document, calls in all forms."""

import random
from functools import lru_cache

from holefloors import errors

ONE = ((0, 0),)
TWO = ((0, 0), (1, 0))
BEND = ((0, 0), (0, 1), (1, 0))
ARCH = ((0, 0), (0, 1), (0, 2), (1, 0), (1, 2), (2, 0), (2, 2))
BOX = ((0, 0), (0, 1), (1, 0), (1, 1))
OBLONG = tuple((x, y) for x in range(3) for y in range(2))
NINE = tuple((x, y) for x in range(3) for y in range(3))
STAIRS = ((0, 0), (1, 0), (1, 1), (2, 1), (2, 2))
CROSS = ((3, 5), (4, 4), (4, 5), (4, 6), (5, 5))
COMB = tuple(sorted([(x, 0) for x in range(5)] + [(0, 1), (2, 1), (4, 1)]))
FAR = tuple((x + 999983, y + 123456) for x, y in BEND)
ROW40 = tuple((x, 0) for x in range(40))
BLOCK40 = tuple((x, y) for x in range(8) for y in range(5))
SNAKE40 = tuple(sorted(
    [(x, y) for y in (0, 2, 4, 6) for x in range(9)] + [(8, 1), (0, 3), (8, 5), (0, 7)]
))

ROW14 = tuple((x, 0) for x in range(14))
# All of four SQUARES or fewer, but for those that are others turned or mirrored.
FEW = (ONE, TWO, ((0, 0), (0, 1)), BEND, ((0, 0), (1, 0), (2, 0)), BOX)

SMALL = (ONE, TWO, ((0, 0), (0, 1)), BEND, FAR, BOX, STAIRS, CROSS)
# Nearly YARDS: nothing, two parts, not ascending, twice, below 0, True for a number.
BAD_YARDS = ((), ((0, 0), (1, 1)), ((1, 0), (0, 0)), ((0, 0), (0, 0)), ((-1, 0),), ((0, True),))
YARDS = SMALL + (ARCH, OBLONG, NINE, COMB, ROW40, BLOCK40, SNAKE40)


def grown(many, seed):
    """A YARD of many SQUARES, grown by chance, the same for the same seed."""
    from holefloors.yards import is_yard

    chance = random.Random(seed)
    yard = ((many, many),)
    while len(yard) < many:
        x, y = chance.choice(yard)
        step = chance.choice(((1, 0), (-1, 0), (0, 1), (0, -1)))
        more = tuple(sorted(set(yard) | {(x + step[0], y + step[1])}))
        if is_yard(more):
            yard = more
    return yard


def small_yards(most):
    """All YARDS of at most so many SQUARES, up to pushing."""
    from holefloors.yards import is_yard

    level = {ONE}
    found = [ONE]
    for _ in range(most - 1):
        after = set()
        for yard in level:
            for x, y in yard:
                for new in ((x + 1, y), (x - 1, y), (x, y + 1), (x, y - 1)):
                    more = set(yard) | {new}
                    low, left = min(b for a, b in more), min(a for a, b in more)
                    more = tuple(sorted((a - left, b - low) for a, b in more))
                    if is_yard(more):
                        after.add(more)
        level = after
        found += sorted(level)
    return found


def cells_by_squares(yard):
    """The CELLS of a YARD, as the document tells them: (POSTS, RAILS, PLOTS)."""
    posts, rails, plots = set(), set(), set()
    for x, y in yard:
        posts |= {(2 * x, 2 * y), (2 * x + 2, 2 * y), (2 * x, 2 * y + 2), (2 * x + 2, 2 * y + 2)}
        rails |= {(2 * x + 1, 2 * y), (2 * x, 2 * y + 1), (2 * x + 1, 2 * y + 2), (2 * x + 2, 2 * y + 1)}
        plots.add((2 * x + 1, 2 * y + 1))
    return posts, rails, plots


def all_places(yard):
    """The PLACES of a YARD, ascending."""
    posts, _, plots = cells_by_squares(yard)
    return sorted(posts | plots)


def is_beside(cell, other):
    return abs(cell[0] - other[0]) + abs(cell[1] - other[1]) == 1


@lru_cache(maxsize=None)
def floors_by_trying(yard, hole):
    """All FLOORS with this HOLE, found by giving each RAIL in turn to a PLACE."""
    posts, rails, plots = cells_by_squares(yard)
    order = sorted(rails)
    found = []

    def give(at, taken, laid):
        if at == len(order):
            found.append(tuple(sorted(laid)))
            return
        x, y = order[at]
        for place in ((x - 1, y), (x + 1, y), (x, y - 1), (x, y + 1)):
            if place in (posts | plots) and place != hole and place not in taken:
                give(at + 1, taken | {place}, laid + [(place, order[at])])

    give(0, frozenset(), [])
    return tuple(sorted(found))


def count_by_trying(yard, hole):
    """How many FLOORS have this HOLE, by going over the CELLS, the same rests counted once."""
    order = sorted(set().union(*cells_by_squares(yard)) - {hole})
    index = {cell: at for at, cell in enumerate(order)}
    mates = [
        [index[mate] for mate in ((x + 1, y), (x, y + 1)) if mate in index] for x, y in order
    ]
    states = {0: 1}
    for at in range(len(order)):
        after = {}
        for state, many in states.items():
            if state >> at & 1:
                after[state] = after.get(state, 0) + many
                continue
            for mate in mates[at]:
                if not state >> mate & 1:
                    new = state | 1 << at | 1 << mate
                    after[new] = after.get(new, 0) + many
        states = after
    return sum(states.values())


def has_post_ring(floor):
    """Whether the POSTS' COUPLES of a FLOOR, one behind the other, come round."""
    to = {
        place: (2 * rail[0] - place[0], 2 * rail[1] - place[1])
        for place, rail in floor if place[0] % 2 == 0
    }
    for start in to:
        here = start
        for _ in range(len(to) + 1):
            if here not in to:
                break
            here = to[here]
        else:
            return True
    return False


def bent_floors(yard, floor):
    """What is nearly a FLOOR: a COUPLE lacking, twice, one too many, not ascending, of another yard."""
    bent = [floor[1:], floor[:-1], floor + floor[-1:], floor[:1] + floor, floor[1:] + floor[:1], floor + (None,)]
    if len(floor) > 1:
        bent += [floor[::-1], (floor[1], floor[0]) + floor[2:]]
    bent += [tuple((rail, place) for place, rail in floor)]
    bent += [tuple(((x + 2, y), (a + 2, b)) for (x, y), (a, b) in floor[:-1]) + (((1, 1), (1, 1)),)]
    bent += [tuple(((x, y - 20), (a, b - 20)) for (x, y), (a, b) in floor)]
    for couple in couples_by_words(yard):
        if couple not in floor:
            bent.append(tuple(sorted(floor + (couple,))))
            bent.append(tuple(sorted(floor[1:] + (couple,))))
    return bent


def couples_by_words(yard):
    """All COUPLES of a YARD, ascending."""
    rails = cells_by_squares(yard)[1]
    around = ((-1, 0), (0, -1), (0, 1), (1, 0))
    return [
        ((x, y), (x + a, y + b)) for x, y in all_places(yard) for a, b in around if (x + a, y + b) in rails
    ]


def free_by_trying(yard, hole):
    """All free FLOORS with this HOLE."""
    return [floor for floor in floors_by_trying(yard, hole) if hole[0] % 2 == 0 and not has_post_ring(floor)]


def is_floor_by_words(yard, told):
    """Whether told, a tuple of pairs of pairs, is a FLOOR."""
    every = [cell for couple in told for cell in couple]
    all_cells = set().union(*cells_by_squares(yard))
    return (
        len(every) == len(set(every)) and len(all_cells - set(every)) == 1 and set(every) <= all_cells
        and list(told) == sorted(set(told)) and set(told) <= set(couples_by_words(yard))
    )


def no_floors(yard, floor):
    """What is nearly the FLOOR, but none."""
    return tuple(bent for bent in bent_floors(yard, floor) if None in bent or not is_floor_by_words(yard, bent))


def pointed(couple):
    """What lies over against the PLACE of a COUPLE, beyond its RAIL."""
    (x, y), (a, b) = couple
    return (2 * a - x, 2 * b - y)


def kind_by_words(place):
    return "post" if place[0] % 2 == 0 else "plot"


def hole_by_words(yard, floor):
    """The CELL that a FLOOR leaves free."""
    free = set().union(*cells_by_squares(yard)) - {cell for couple in floor for cell in couple}
    assert len(free) == 1
    return min(free)


def slides_by_words(yard, floor):
    """The pairs (place, floor) of the PLACES to which a SLIDE leads, each with the FLOOR behind it."""
    hole = hole_by_words(yard, floor)
    return sorted(
        (couple[0], tuple(sorted(set(floor) - {couple} | {(hole, couple[1])})))
        for couple in floor if pointed(couple) == hole
    )


@lru_cache(maxsize=None)
def search(yard, floor):
    """All FLOORS to which SLIDES lead: pairs (floor, the PLACES slid to), tried one by one, the nearest first."""
    found = {floor: ()}
    front = [floor]
    for here in front:
        for place, after in slides_by_words(yard, here):
            if after not in found:
                found[after] = found[here] + (place,)
                front.append(after)
    return tuple(found.items())


def holes_by_search(yard, floor):
    """The PLACES to which SLIDES bring the HOLE, each with the PLAN tried first."""
    return {hole_by_words(yard, own): plan for own, plan in search(yard, floor)}


def still_by_search(yard, floor):
    """The COUPLES that stand in all FLOORS to which SLIDES lead."""
    return tuple(couple for couple in floor if all(couple in own for own, _ in search(yard, floor)))


def rings_by_walk(floor):
    """The RINGS of a FLOOR, of both kinds, come upon by walking along the arrows from each PLACE."""
    to = {couple[0]: pointed(couple) for couple in floor}
    found = set()
    for start in to:
        way = [start]
        while way[-1] in to and to[way[-1]] not in way:
            way.append(to[way[-1]])
        if to.get(way[-1]) == start:
            at = way.index(min(way))
            found.add(tuple(way[at:] + way[:at]))
    return sorted(found)


def within_by_flood(yard, ring):
    """The PLACES of a YARD that are shut off by a RING from what is far away."""
    wall = set(ring)
    for (x, y), (a, b) in zip(ring, ring[1:] + ring[:1]):
        wall.add(((x + a) // 2, (y + b) // 2))
    low, high = min(x for x, _ in wall) - 1, max(x for x, _ in wall) + 1
    under, above = min(y for _, y in wall) - 1, max(y for _, y in wall) + 1
    seen = {(low, under)}
    front = [(low, under)]
    for x, y in front:
        for cell in ((x + 1, y), (x - 1, y), (x, y + 1), (x, y - 1)):
            if low <= cell[0] <= high and under <= cell[1] <= above and cell not in seen | wall:
                seen.add(cell)
                front.append(cell)
    return tuple(
        (x, y) for x, y in all_places(yard)
        if low < x < high and under < y < above and (x, y) not in seen | wall
    )


def chance_floor(yard, hole, chance):
    """A FLOOR with this HOLE, come to by chance: each PLACE takes a RAIL, others give theirs up if need be."""
    posts, rails, plots = cells_by_squares(yard)
    holder = {}

    def take(place, tried):
        x, y = place
        near = [rail for rail in ((x + 1, y), (x - 1, y), (x, y + 1), (x, y - 1)) if rail in rails]
        chance.shuffle(near)
        for rail in near:
            if rail not in tried:
                tried.add(rail)
                if rail not in holder or take(holder[rail], tried):
                    holder[rail] = place
                    return True
        return False

    every = sorted((posts | plots) - {hole})
    chance.shuffle(every)
    for place in every:
        assert take(place, set())
    return tuple(sorted((place, rail) for rail, place in holder.items()))


def nested(many, turned=()):
    """A FLOOR of boxed(many, many), the HOLE amid: one RING within the other, those turned the other way round."""
    laid = []
    for size in range(1, many + 1):
        x, y = many - size, many - size
        round_it = []
        for east, north in ((1, 0), (0, 1), (-1, 0), (0, -1)):
            for _ in range(2 * size):
                round_it.append((x, y))
                x, y = x + east, y + north
        if size in turned:
            round_it = round_it[:1] + round_it[:0:-1]
        laid += list(zip(round_it[::2], round_it[1::2]))
    return tuple(sorted(laid))


def sample_floors(yard, seed=1, step=1):
    """A FLOOR by chance for each HOLE, or for each step-th one."""
    chance = random.Random(seed)
    return [chance_floor(yard, hole, chance) for hole in all_places(yard)[::step]]


def every_floor(yard):
    """All FLOORS of a small YARD."""
    return [floor for hole in all_places(yard) for floor in floors_by_trying(yard, hole)]


def as_lists(value):
    """The value with lists in the place of all tuples."""
    if isinstance(value, (list, tuple)):
        return [as_lists(part) for part in value]
    return value


def as_tuples(value):
    """The value with tuples in the place of all lists."""
    if isinstance(value, (list, tuple)):
        return tuple(as_tuples(part) for part in value)
    return value


def half_lists(value, depth=0):
    """The value with lists at each second depth."""
    if isinstance(value, (list, tuple)):
        parts = [half_lists(part, depth + 1) for part in value]
        return parts if depth % 2 == 0 else tuple(parts)
    return value


def deep(times):
    """A list nested so deep."""
    value = []
    for _ in range(times):
        value = [value]
    return value


# None of these is a value told by a name in capitals, nor a pair of numbers, a number or a kind.
NEVER = (
    None, True, False, 1.0, "", "a", "rail", "(0, 0)", b"ab", {}, {"a": 1}, {(0, 0): 1}, {1, 2}, object(),
    (None,), (True,), ("a",), (None, None), (True, False), ("a", "b"), (1.0, 2.0), (0, True), (False, 0),
    (0,), (0, 0, 0), ((0,),), ((0, 0, 0),), ((0, True),), ((0, 0), None), ((0, 0), 5), ((0, 0), "ab"),
    (((0, 0), (0, 1)), ((0, 0),)), (((0, 0), (0, True)),), deep(3), deep(19), deep(5000), -1, -7,
)


def outcome(function, args=(), named=None):
    """What a call returns, or the error that it raises with its attributes, as a text."""
    try:
        value = function(*args, **(named or {}))
    except (LookupError, ValueError) as error:
        return "raises " + shown(error)
    return repr(value)


def shown(error):
    """An error as the document writes it: its class and its attributes."""
    fields = ", ".join(f"{name}={value!r}" for name, value in sorted(vars(error).items()))
    return f"{error.__class__.__name__}({fields})"


def check_calls(test, function, names, args):
    """The same call by position, by names and with lists: equal results, nothing changed, lists new."""
    expected = outcome(function, args)
    for form in (lambda x: x, as_tuples, as_lists, half_lists):
        # A thing is what it is: a list is no tuple there.
        given = [arg if name == "thing" else form(arg) for name, arg in zip(names, args)]
        before = repr(given)
        test.assertEqual(outcome(function, given), expected, (function, given))
        test.assertEqual(outcome(function, (), dict(zip(names, given))), expected, (function, given))
        backward = dict(reversed(list(zip(names, given))))
        test.assertEqual(outcome(function, (), backward), expected, (function, given))
        test.assertEqual(repr(given), before, (function, given))
    if not expected.startswith("raises"):
        first = function(*args)
        if isinstance(first, list):
            first.append("mine")
            first.reverse()
            test.assertEqual(outcome(function, args), expected, (function, args))
    return expected


def check_never(test, function, args, at, error, besides=()):
    """No value that is never fit passes as the argument at this place."""
    for bad in NEVER + tuple(besides):
        given = list(args)
        given[at] = bad
        with test.assertRaises(error, msg=(function, at, bad)):
            function(*given)


def check_no_place(test, function, args, at):
    """NoPlace is raised for each pair of numbers at this place of the arguments that is no PLACE, told as it is."""
    rails = sorted(cells_by_squares(as_tuples(args[0]))[1])
    for place in rails + [(-1, -1), (-2, 0), (-1, 1), (10 ** 6, 10 ** 6), (0, 10 ** 6 + 1)]:
        given = list(args)
        given[at] = list(place)
        test.assertEqual(outcome(function, given), f"raises NoPlace(place={place})", (function, given))


def run_examples(test, text, names):
    """Runs examples as the document writes them; the names that they set stay in names."""
    scope = {name: value for name, value in vars(errors).items() if not name.startswith("_")}
    scope.update(names)
    lines = [line.strip() for line in text.strip().split("\n")]
    for at, line in enumerate(lines):
        if not line.startswith(">>> "):
            continue
        told = line[4:]
        answer = lines[at + 1] if at + 1 < len(lines) else ">>> "
        if answer.startswith(">>> "):
            exec(told, scope)
        elif answer.startswith("raises "):
            wanted = eval(answer[7:], scope)
            with test.assertRaises(wanted.__class__, msg=told) as caught:
                eval(told, scope)
            test.assertEqual(shown(caught.exception), shown(wanted), told)
        else:
            test.assertEqual(repr(eval(told, scope)), repr(eval(answer, scope)), told)
    return scope
