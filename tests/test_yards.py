import random
import unittest

from holefloors import yards
from holefloors.errors import CanNot, Unfit
from holefloors.yards import boxed, hangs_together, inner_posts, is_square, is_yard, plots, posts, rails, rim
from holefloors.yards import sizes, square_less, square_more, squares_beside, surplus
from tests.support import ARCH, BEND, BLOCK40, BOX, FAR, NEVER, NINE, ONE, ROW40, SMALL, TWO, YARDS, as_lists
from tests.support import cells_by_squares, check_calls, check_never, deep, grown, is_beside, outcome
from tests.support import run_examples, small_yards

EXAMPLES = '''
    >>> bend, arch = ((0, 0), (0, 1), (1, 0)), ((0, 0), (0, 1), (0, 2), (1, 0), (1, 2), (2, 0), (2, 2))
    >>> is_yard(bend), is_yard(arch), is_yard(arch + ((2, 1),)), is_yard(((0, 0), (1, 1))), is_yard(((0, 0), (0, 0))), is_yard(()), is_yard([(0, 0)])
    (True, True, False, False, False, False, False)
    >>> surplus(bend), surplus(arch + ((2, 1),)), surplus(((0, 0), (1, 1))), hangs_together(((1, 1), (0, 0), (1, 0))), hangs_together(((0, 0), (1, 1)))
    (1, 0, 1, True, False)
    >>> posts(bend)
    ((0, 0), (0, 2), (0, 4), (2, 0), (2, 2), (2, 4), (4, 0), (4, 2))
    >>> rails(bend)
    ((0, 1), (0, 3), (1, 0), (1, 2), (1, 4), (2, 1), (2, 3), (3, 0), (3, 2), (4, 1))
    >>> plots(bend), sizes(arch), squares_beside(arch, (0, 1)), len(rim(arch)), inner_posts(arch), inner_posts(boxed(3, 2))
    (((1, 1), (1, 3), (3, 1)), (16, 22, 7), ((0, 0), (0, 2)), 16, (), ((2, 2), (4, 2)))
    >>> rim(boxed(2, 1)), square_more(bend, (1, 1)) == boxed(2, 2), square_less(arch, (2, 0)) == arch[:5] + arch[6:], sizes(boxed(40, 1))
    (((0, 1), (1, 0), (1, 2), (3, 0), (3, 2), (4, 1)), True, True, (82, 121, 40))
    >>> square_more(arch, (2, 1))
    raises CanNot()
    >>> square_less(arch, (0, 1))
    raises CanNot()
    >>> squares_beside(bend, (1, 1))
    raises Unfit()
'''
# SQUARES that are no YARD: a gap, gaps shut by a corner inside and outside, two parts, a corner alone.
ROUND = tuple(square for square in NINE if square != (1, 1))
ROUND_OFF_CORNER = ((0, 0), (0, 1), (0, 2), (1, 0), (1, 2), (2, 1), (2, 2))
NO_YARDS = (
    ROUND, ROUND[:-1] + ((3, 0), (3, 1), (3, 2)), ((0, 0), (1, 1)), ((0, 0), (2, 0)), ((0, 0), (0, 1), (1, 2)),
    ROUND_OFF_CORNER, tuple(sorted(((1, 0), (0, 0), (0, 1), (0, 2), (1, 2), (2, 1), (2, 2)))),
)
BAD_SQUARES = ((0, -1), (-1, 0), (-2, -2))


def neighbours(square):
    x, y = square
    return ((x + 1, y), (x - 1, y), (x, y + 1), (x, y - 1))


def parts_by_sides(squares):
    """How many parts a set of SQUARES has that each hang together by sides."""
    waiting, many = set(squares), 0
    while waiting:
        many += 1
        front = [waiting.pop()]
        while front:
            for other in neighbours(front.pop()):
                if other in waiting:
                    waiting.discard(other)
                    front.append(other)
    return many


def holes_between(squares):
    """How many parts the other SQUARES of the plane have, the part out left out."""
    low = min(min(square) for square in squares) - 1
    high = max(max(square) for square in squares) + 2
    others = [(x, y) for x in range(low, high) for y in range(low, high) if (x, y) not in squares]
    return parts_by_sides(others) - 1


class YardsTest(unittest.TestCase):
    def test_examples(self):
        run_examples(self, EXAMPLES, vars(yards))

    def test_all_small_sets(self):
        grid = [(x, y) for x in range(3) for y in range(4)]
        for mask in range(1, 1 << len(grid)):
            squares = tuple(square for at, square in enumerate(grid) if mask >> at & 1)
            whole = parts_by_sides(squares) == 1
            self.assertEqual(hangs_together(squares), whole)
            if whole:
                self.assertEqual(surplus(squares), 1 - holes_between(squares))
            self.assertEqual(is_yard(squares), whole and holes_between(squares) == 0)

    def test_gaps_of_great_sets(self):
        chance = random.Random(11)
        grid = [(x, y) for x in range(7) for y in range(7)]
        for _ in range(200):
            squares = tuple(sorted(chance.sample(grid, 40)))
            if parts_by_sides(squares) == 1:
                self.assertEqual(surplus(squares), 1 - holes_between(squares))

    def test_no_yards(self):
        for squares in NO_YARDS:
            self.assertFalse(is_yard(squares), squares)
            for name in ("posts", "rails", "plots", "sizes", "rim", "inner_posts"):
                self.assertEqual(outcome(getattr(yards, name), (squares,)), "raises Unfit()")

    def test_things(self):
        for yard in YARDS:
            self.assertIs(is_yard(yard), True)
            self.assertIs(is_yard(list(yard)), False)
            self.assertIs(is_yard(as_lists(yard)), False)
            self.assertIs(is_yard(yard[:-1] + ([*yard[-1]],)), False)
            self.assertIs(is_yard(yard + yard[-1:]), False)
            if len(yard) > 1:
                self.assertIs(is_yard(yard[::-1]), False)
            for square in yard:
                self.assertIs(is_square(yard, square), True)
                self.assertIs(is_square(yard, list(square)), False)
        for thing in NEVER + BAD_SQUARES + ((), [], ((),), ((0, -1),), ((-1, 0), (0, 0))):
            self.assertIs(is_yard(thing), False, thing)
            self.assertIs(is_square(BOX, thing), False, thing)
        self.assertIs(is_square(BOX, (1, True)), False)
        self.assertIs(is_square(BOX, (2, 0)), False)
        self.assertIs(is_yard(((0, False),)), False)
        self.assertIs(is_yard(((True, 0), (2, 0))), False)

    def test_things_beyond_the_bounds(self):
        great = tuple((10 ** 30 + x, 10 ** 40) for x in range(3))
        self.assertIs(is_yard(great), True)
        self.assertIs(is_square(great, great[1]), True)
        self.assertIs(is_yard(tuple((x, y) for x in range(60) for y in range(50))), True)

    def test_counts_of_cells(self):
        for yard in YARDS + tuple(grown(40, seed) for seed in range(4)):
            own_posts, own_rails, own_plots = cells_by_squares(yard)
            self.assertEqual(posts(yard), tuple(sorted(own_posts)))
            self.assertEqual(rails(yard), tuple(sorted(own_rails)))
            self.assertEqual(plots(yard), tuple(sorted(own_plots)))
            self.assertEqual(sizes(yard), (len(own_posts), len(own_rails), len(own_plots)))
            self.assertEqual(len(own_posts) + len(own_plots), len(own_rails) + 1)
            sides = {rail: [plot for plot in own_plots if is_beside(plot, rail)] for rail in own_rails}
            self.assertEqual(rim(yard), tuple(sorted(rail for rail in sides if len(sides[rail]) == 1)))
            about = {
                (x, y): {(x - 1, y - 1), (x + 1, y - 1), (x - 1, y + 1), (x + 1, y + 1)} & own_plots
                for x, y in own_posts
            }
            inner = tuple(sorted(post for post in about if len(about[post]) == 4))
            self.assertEqual(inner_posts(yard), inner)
            self.assertEqual(len(rim(yard)), len(own_posts) - len(inner))

    def test_squares_beside(self):
        for yard in YARDS:
            for square in yard:
                wanted = tuple(sorted(other for other in neighbours(square) if other in yard))
                self.assertEqual(squares_beside(yard, square), wanted)

    def test_boxed(self):
        self.assertEqual(boxed(1, 1), ONE)
        self.assertEqual(boxed(2, 1), TWO)
        self.assertEqual(boxed(1, 2), ((0, 0), (0, 1)))
        self.assertEqual(boxed(8, 5), BLOCK40)
        self.assertEqual(boxed(40, 1), ROW40)
        self.assertEqual(len(boxed(1000, 100)), 100000)
        self.assertEqual(inner_posts(BLOCK40), tuple((x, y) for x in range(2, 16, 2) for y in range(2, 10, 2)))

    def test_more_and_less(self):
        for yard in SMALL + (ARCH, NINE, ROW40):
            near = sorted({other for square in yard for other in neighbours(square) if min(other) >= 0})
            for new in near + [(0, 0), (50, 60)]:
                more = tuple(sorted(yard + (new,)))
                if is_yard(more):
                    self.assertEqual(square_more(yard, new), more)
                    self.assertEqual(square_less(more, new), yard)
                else:
                    self.assertRaises(CanNot, square_more, yard, new)
        self.assertRaises(CanNot, square_more, ONE, (0, 0))
        self.assertRaises(CanNot, square_more, ONE, (1, 1))
        self.assertRaises(CanNot, square_less, ONE, (0, 0))

    def test_two_can_be_left_out(self):
        for yard in small_yards(5) + [grown(40, 9), BLOCK40]:
            can = [square for square in yard if outcome(square_less, (yard, square)) != "raises CanNot()"]
            self.assertGreaterEqual(len(can), min(2, len(yard) - 1) if len(yard) > 1 else 0)
            for square in can:
                self.assertTrue(is_yard(square_less(yard, square)))

    def test_any_order_and_twice(self):
        self.assertEqual(surplus(((0, 0), (1, 0), (0, 0))), 1)
        self.assertTrue(hangs_together(((5, 5), (5, 6), (5, 5), (5, 4))))
        self.assertEqual(surplus(((9, 9),)), 1)
        self.assertEqual(surplus(ROUND), 0)
        self.assertEqual(surplus(((0, 0), (5, 5))), 2)
        self.assertEqual(surplus(ROUND_OFF_CORNER), 0)

    def test_wrong_yards(self):
        besides = BAD_SQUARES + NO_YARDS + ((), BEND[::-1], BEND + BEND[-1:], ((0, -1), (0, 0)))
        for name in ("posts", "rails", "plots", "sizes", "rim", "inner_posts"):
            check_never(self, getattr(yards, name), (ONE,), 0, Unfit, besides)
        for name in ("is_square", "squares_beside", "square_more", "square_less"):
            check_never(self, getattr(yards, name), (ONE, (0, 0)), 0, Unfit, besides)
            check_never(self, getattr(yards, name), (ONE, (0, -1)), 0, Unfit, besides)

    def test_wrong_squares(self):
        for function in (squares_beside, square_less):
            check_never(self, function, (TWO, (0, 0)), 1, Unfit, BAD_SQUARES + ((0, 1), (2, 0), (), ((0, 0),)))
        check_never(self, square_more, (TWO, (0, 1)), 1, Unfit, BAD_SQUARES + ((), ((0, 0),)))
        for function in (hangs_together, surplus):
            check_never(self, function, (TWO,), 0, Unfit, BAD_SQUARES + ((), [], (0, 0), ((0, 0), (0, -1)), "ab"))

    def test_wrong_numbers(self):
        for bad in (0, -1, True, None, "1", 1.0, (1,), [], deep(40)):
            self.assertRaises(Unfit, boxed, bad, 1)
            self.assertRaises(Unfit, boxed, 1, bad)
            self.assertRaises(Unfit, boxed, bad, bad)

    def test_forms(self):
        for yard in (ONE, BEND, FAR, ARCH):
            for name in ("posts", "rails", "plots", "sizes", "rim", "inner_posts"):
                check_calls(self, getattr(yards, name), ("yard",), (yard,))
            for name in ("squares_beside", "square_less", "square_more"):
                for square in yard + ((7, 7), (2, 1)):
                    check_calls(self, getattr(yards, name), ("yard", "square"), (yard, square))
            for name in ("hangs_together", "surplus"):
                check_calls(self, getattr(yards, name), ("squares",), (yard[::-1],))
        check_calls(self, boxed, ("many", "high"), (3, 2))
        self.assertIs(is_yard(thing=BEND), True)
        self.assertIs(is_square(yard=as_lists(BEND), thing=(1, 0)), True)


if __name__ == "__main__":
    unittest.main()
