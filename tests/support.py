"""What the tests share: yards, examples read as they stand in the document, calls in all forms."""

import random
from functools import lru_cache

from holefloors import errors

ONE = ((0, 0),)
TWO = ((0, 0), (1, 0))
BEND = ((0, 0), (0, 1), (1, 0))
ARCH = ((0, 0), (0, 1), (0, 2), (1, 0), (1, 2), (2, 0), (2, 2))
BOX = ((0, 0), (0, 1), (1, 0), (1, 1))
OBLONG = tuple((x, y) for x in range(3) for y in range(2))
NINE = tuple((x, y) for x in range(3) for y in range(3))
STAIRS = ((0, 0), (1, 0), (1, 1), (2, 1), (2, 2))
CROSS = ((3, 5), (4, 4), (4, 5), (4, 6), (5, 5))
COMB = tuple(sorted([(x, 0) for x in range(5)] + [(0, 1), (2, 1), (4, 1)]))
FAR = tuple((x + 999983, y + 123456) for x, y in BEND)
ROW40 = tuple((x, 0) for x in range(40))
BLOCK40 = tuple((x, y) for x in range(8) for y in range(5))
SNAKE40 = tuple(sorted(
    [(x, y) for y in (0, 2, 4, 6) for x in range(9)] + [(8, 1), (0, 3), (8, 5), (0, 7)]
))

SMALL = (ONE, TWO, ((0, 0), (0, 1)), BEND, FAR, BOX, STAIRS, CROSS)
# Nearly YARDS: nothing, two parts, not ascending, twice, below 0, True for a number.
BAD_YARDS = ((), ((0, 0), (1, 1)), ((1, 0), (0, 0)), ((0, 0), (0, 0)), ((-1, 0),), ((0, True),))
YARDS = SMALL + (ARCH, OBLONG, NINE, COMB, ROW40, BLOCK40, SNAKE40)


def grown(many, seed):
    """A YARD of many SQUARES, grown by chance, the same for the same seed."""
    from holefloors.yards import is_yard

    chance = random.Random(seed)
    yard = ((many, many),)
    while len(yard) < many:
        x, y = chance.choice(yard)
        step = chance.choice(((1, 0), (-1, 0), (0, 1), (0, -1)))
        more = tuple(sorted(set(yard) | {(x + step[0], y + step[1])}))
        if is_yard(more):
            yard = more
    return yard


def small_yards(most):
    """All YARDS of at most so many SQUARES, up to pushing."""
    from holefloors.yards import is_yard

    level = {ONE}
    found = [ONE]
    for _ in range(most - 1):
        after = set()
        for yard in level:
            for x, y in yard:
                for new in ((x + 1, y), (x - 1, y), (x, y + 1), (x, y - 1)):
                    more = set(yard) | {new}
                    low, left = min(b for a, b in more), min(a for a, b in more)
                    more = tuple(sorted((a - left, b - low) for a, b in more))
                    if is_yard(more):
                        after.add(more)
        level = after
        found += sorted(level)
    return found


def cells_by_squares(yard):
    """The CELLS of a YARD, as the document tells them: (POSTS, RAILS, PLOTS)."""
    posts, rails, plots = set(), set(), set()
    for x, y in yard:
        posts |= {(2 * x, 2 * y), (2 * x + 2, 2 * y), (2 * x, 2 * y + 2), (2 * x + 2, 2 * y + 2)}
        rails |= {(2 * x + 1, 2 * y), (2 * x, 2 * y + 1), (2 * x + 1, 2 * y + 2), (2 * x + 2, 2 * y + 1)}
        plots.add((2 * x + 1, 2 * y + 1))
    return posts, rails, plots


def all_places(yard):
    """The PLACES of a YARD, ascending."""
    posts, _, plots = cells_by_squares(yard)
    return sorted(posts | plots)


def is_beside(cell, other):
    return abs(cell[0] - other[0]) + abs(cell[1] - other[1]) == 1


@lru_cache(maxsize=None)
def floors_by_trying(yard, hole):
    """All FLOORS with this HOLE, found by giving each RAIL in turn to a PLACE."""
    posts, rails, plots = cells_by_squares(yard)
    order = sorted(rails)
    found = []

    def give(at, taken, laid):
        if at == len(order):
            found.append(tuple(sorted(laid)))
            return
        x, y = order[at]
        for place in ((x - 1, y), (x + 1, y), (x, y - 1), (x, y + 1)):
            if place in (posts | plots) and place != hole and place not in taken:
                give(at + 1, taken | {place}, laid + [(place, order[at])])

    give(0, frozenset(), [])
    return tuple(sorted(found))


def count_by_trying(yard, hole):
    """How many FLOORS have this HOLE, by going over the CELLS, the same rests counted once."""
    order = sorted(set().union(*cells_by_squares(yard)) - {hole})
    index = {cell: at for at, cell in enumerate(order)}
    mates = [
        [index[mate] for mate in ((x + 1, y), (x, y + 1)) if mate in index] for x, y in order
    ]
    states = {0: 1}
    for at in range(len(order)):
        after = {}
        for state, many in states.items():
            if state >> at & 1:
                after[state] = after.get(state, 0) + many
                continue
            for mate in mates[at]:
                if not state >> mate & 1:
                    new = state | 1 << at | 1 << mate
                    after[new] = after.get(new, 0) + many
        states = after
    return sum(states.values())


def has_post_ring(floor):
    """Whether the POSTS' COUPLES of a FLOOR, one behind the other, come round."""
    to = {
        place: (2 * rail[0] - place[0], 2 * rail[1] - place[1])
        for place, rail in floor if place[0] % 2 == 0
    }
    for start in to:
        here = start
        for _ in range(len(to) + 1):
            if here not in to:
                break
            here = to[here]
        else:
            return True
    return False


def as_lists(value):
    """The value with lists in the place of all tuples."""
    if isinstance(value, (list, tuple)):
        return [as_lists(part) for part in value]
    return value


def as_tuples(value):
    """The value with tuples in the place of all lists."""
    if isinstance(value, (list, tuple)):
        return tuple(as_tuples(part) for part in value)
    return value


def half_lists(value, depth=0):
    """The value with lists at each second depth."""
    if isinstance(value, (list, tuple)):
        parts = [half_lists(part, depth + 1) for part in value]
        return parts if depth % 2 == 0 else tuple(parts)
    return value


def deep(times):
    """A list nested so deep."""
    value = []
    for _ in range(times):
        value = [value]
    return value


# None of these is a value told by a name in capitals, nor a pair of numbers, a number or a kind.
NEVER = (
    None, True, False, 1.0, "", "a", "rail", "(0, 0)", b"ab", {}, {"a": 1}, {(0, 0): 1}, {1, 2}, object(),
    (None,), (True,), ("a",), (None, None), (True, False), ("a", "b"), (1.0, 2.0), (0, True), (False, 0),
    (0,), (0, 0, 0), ((0,),), ((0, 0, 0),), ((0, True),), ((0, 0), None), ((0, 0), 5), ((0, 0), "ab"),
    (((0, 0), (0, 1)), ((0, 0),)), (((0, 0), (0, True)),), deep(3), deep(19), deep(5000), -1, -7,
)


def outcome(function, args=(), named=None):
    """What a call returns, or the error that it raises with its attributes, as a text."""
    try:
        value = function(*args, **(named or {}))
    except (LookupError, ValueError) as error:
        return "raises " + shown(error)
    return repr(value)


def shown(error):
    """An error as the document writes it: its class and its attributes."""
    fields = ", ".join(f"{name}={value!r}" for name, value in sorted(vars(error).items()))
    return f"{error.__class__.__name__}({fields})"


def check_calls(test, function, names, args):
    """The same call by position, by names and with lists: equal results, nothing changed, lists new."""
    expected = outcome(function, args)
    for form in (lambda x: x, as_tuples, as_lists, half_lists):
        given = [form(arg) for arg in args]
        before = repr(given)
        test.assertEqual(outcome(function, given), expected, (function, given))
        test.assertEqual(outcome(function, (), dict(zip(names, given))), expected, (function, given))
        backward = dict(reversed(list(zip(names, given))))
        test.assertEqual(outcome(function, (), backward), expected, (function, given))
        test.assertEqual(repr(given), before, (function, given))
    if not expected.startswith("raises"):
        first = function(*args)
        if isinstance(first, list):
            first.append("mine")
            first.reverse()
            test.assertEqual(outcome(function, args), expected, (function, args))
    return expected


def check_never(test, function, args, at, error, besides=()):
    """No value that is never fit passes as the argument at this place."""
    for bad in NEVER + tuple(besides):
        given = list(args)
        given[at] = bad
        with test.assertRaises(error, msg=(function, at, bad)):
            function(*given)


def run_examples(test, text, names):
    """Runs examples as the document writes them; the names that they set stay in names."""
    scope = {name: value for name, value in vars(errors).items() if not name.startswith("_")}
    scope.update(names)
    lines = [line.strip() for line in text.strip().split("\n")]
    for at, line in enumerate(lines):
        if not line.startswith(">>> "):
            continue
        told = line[4:]
        answer = lines[at + 1] if at + 1 < len(lines) else ">>> "
        if answer.startswith(">>> "):
            exec(told, scope)
        elif answer.startswith("raises "):
            wanted = eval(answer[7:], scope)
            with test.assertRaises(wanted.__class__, msg=told) as caught:
                eval(told, scope)
            test.assertEqual(shown(caught.exception), shown(wanted), told)
        else:
            test.assertEqual(repr(eval(told, scope)), repr(eval(answer, scope)), told)
    return scope
