import unittest

from holefloors import cells as module
from holefloors.cells import cells, cells_beside, couples, couples_out, couples_to, ends, is_cell, is_couple
from holefloors.cells import is_place, kind_of, places, plot_of, points_to, rails_at, sides
from holefloors.errors import NoCell, NoPlace, Unfit
from holefloors.yards import plots, posts, rails, rim
from tests.support import ARCH, BAD_YARDS, BEND, BOX, FAR, NEVER, ONE, TWO, YARDS, as_lists, cells_by_squares
from tests.support import check_calls, check_never, is_beside, run_examples

EXAMPLES = '''
    >>> bend, arch = ((0, 0), (0, 1), (1, 0)), ((0, 0), (0, 1), (0, 2), (1, 0), (1, 2), (2, 0), (2, 2))
    >>> [kind_of(bend, own) for own in ((2, 2), (3, 1), (2, 3))], len(cells(bend)), places(bend, "plot"), plot_of(bend, (1, 0))
    (['post', 'plot', 'rail'], 21, ((1, 1), (1, 3), (3, 1)), (3, 1))
    >>> cells_beside(bend, (2, 2)), cells_beside(bend, (2, 1)), cells_beside(bend, (2, 3)), rails_at(bend, (4, 2)), rails_at(bend, (1, 1))
    (((1, 2), (2, 1), (2, 3), (3, 2)), ((1, 1), (2, 0), (2, 2), (3, 1)), ((1, 3), (2, 2), (2, 4)), ((3, 2), (4, 1)), ((0, 1), (1, 0), (1, 2), (2, 1)))
    >>> ends(bend, (2, 3)), sides(bend, (2, 3)), sides(bend, (1, 2)), sides(bend, (1, 0)), is_cell(bend, (3, 3)), is_place(bend, (2, 1))
    (((2, 2), (2, 4)), ((1, 3), None), ((1, 1), (1, 3)), (None, (1, 1)), False, False)
    >>> points_to(bend, ((2, 2), (3, 2))), points_to(bend, ((1, 1), (2, 1))), points_to(bend, ((1, 3), (2, 3))), is_couple(bend, ((2, 1), (2, 2))), is_couple(bend, ((2, 2), (2, 1)))
    ((4, 2), (3, 1), None, False, True)
    >>> len(couples(bend)), couples_to(bend, (3, 1)), couples_to(bend, (0, 4)), len(couples_out(bend))
    (32, (((1, 1), (2, 1)),), (((0, 2), (0, 3)), ((2, 4), (1, 4))), 8)
    >>> kind_of(bend, (3, 3))
    raises NoCell(cell=(3, 3))
    >>> sides(bend, (1, 1))
    raises NoCell(cell=(1, 1))
    >>> rails_at(bend, (2, 1))
    raises NoPlace(place=(2, 1))
    >>> points_to(bend, ((2, 1), (2, 2)))
    raises Unfit()
'''
# Pairs of numbers that are no CELLS of BEND, and none of the yards below.
OUTSIDE = ((3, 3), (4, 3), (4, 4), (3, 4), (-1, 0), (0, -2), (5, 0), (10 ** 6, -10 ** 6))


class CellsTest(unittest.TestCase):
    def test_examples(self):
        run_examples(self, EXAMPLES, vars(module))

    def test_all_cells(self):
        for yard in YARDS:
            own_posts, own_rails, own_plots = cells_by_squares(yard)
            self.assertEqual(cells(yard), tuple(sorted(own_posts | own_rails | own_plots)))
            self.assertEqual(places(yard, "post"), tuple(sorted(own_posts)))
            self.assertEqual(places(yard, "plot"), tuple(sorted(own_plots)))
            kinds = {"post": own_posts, "rail": own_rails, "plot": own_plots}
            for kind, own in kinds.items():
                self.assertEqual({kind_of(yard, cell) for cell in own}, {kind})
            self.assertEqual([plot_of(yard, square) for square in yard], sorted(own_plots))

    def test_beside(self):
        for yard in YARDS:
            own_posts, own_rails, own_plots = cells_by_squares(yard)
            for place in own_posts | own_plots:
                wanted = tuple(sorted(rail for rail in own_rails if is_beside(place, rail)))
                self.assertEqual(cells_beside(yard, place), wanted)
                self.assertEqual(rails_at(yard, place), wanted)
                self.assertTrue(2 <= len(wanted) <= 4 if place in own_posts else len(wanted) == 4)

    def test_rails(self):
        for yard in YARDS:
            own_posts, own_rails, own_plots = cells_by_squares(yard)
            on_rim = rim(yard)
            for rail in own_rails:
                near = tuple(sorted(cell for cell in own_posts | own_plots if is_beside(cell, rail)))
                self.assertEqual(cells_beside(yard, rail), near)
                self.assertEqual(ends(yard, rail), tuple(cell for cell in near if cell in own_posts))
                self.assertEqual(len(ends(yard, rail)), 2)
                both = sides(yard, rail)
                self.assertEqual(len(both), 2)
                self.assertEqual(tuple(side for side in both if side), tuple(cell for cell in near if cell in own_plots))
                self.assertEqual(None in both, rail in on_rim)
                first = (rail[0] - 1, rail[1]) if rail[0] % 2 == 0 else (rail[0], rail[1] - 1)
                self.assertEqual(both[0], first if first in own_plots else None)

    def test_couples(self):
        for yard in YARDS:
            told = couples(yard)
            self.assertEqual(len(told), 4 * len(plots(yard)) + 2 * len(rails(yard)))
            self.assertEqual(told, tuple(sorted(set(told))))
            on_rim = rim(yard)
            pointing = {}
            for place, rail in told:
                self.assertTrue(is_couple(yard, (place, rail)))
                self.assertFalse(is_couple(yard, (rail, place)))
                goal = points_to(yard, (place, rail))
                pointing.setdefault(goal, []).append((place, rail))
                if kind_of(yard, place) == "post":
                    self.assertEqual(tuple(sorted((place, goal))), ends(yard, rail))
                else:
                    self.assertEqual(goal is None, rail in on_rim)
                    self.assertEqual(set(sides(yard, rail)), {place, goal})
            self.assertEqual(couples_out(yard), tuple(pointing[None]))
            for kind in ("post", "plot"):
                for place in places(yard, kind):
                    wanted = tuple(pointing.get(place, ()))
                    self.assertEqual(couples_to(yard, place), wanted)
                    own = [rail for rail in rails_at(yard, place) if kind == "post" or rail not in on_rim]
                    self.assertEqual(len(wanted), len(own))

    def test_ends_of_every_couple_count(self):
        self.assertEqual(couples_to(ONE, (1, 1)), ())
        self.assertEqual(len(couples_out(ONE)), 4)
        self.assertEqual(sides(ONE, (2, 1)), ((1, 1), None))
        self.assertEqual(sides(ONE, (1, 2)), ((1, 1), None))
        self.assertEqual(sides(ONE, (0, 1)), (None, (1, 1)))
        self.assertEqual(sides(TWO, (2, 1)), ((1, 1), (3, 1)))

    def test_things(self):
        for yard in (ONE, BEND, FAR, ARCH):
            for thing in NEVER + ((), (0,), "ab", deep_pair()):
                for function in (is_cell, is_place, is_couple):
                    self.assertIs(function(yard, thing), False, thing)
            for cell in cells(yard):
                self.assertIs(is_cell(yard, cell), True)
                self.assertIs(is_cell(yard, list(cell)), False)
                self.assertIs(is_place(yard, cell), kind_of(yard, cell) != "rail")
                self.assertIs(is_place(yard, list(cell)), False)
                self.assertIs(is_couple(yard, cell), False)
            for place, rail in couples(yard):
                for thing in ([place, rail], (list(place), rail), (place, list(rail)), as_lists((place, rail))):
                    self.assertIs(is_couple(yard, thing), False)
                for thing in ((place,), (place, rail, rail), (place, place), (rail, rail), (place, None)):
                    self.assertIs(is_couple(yard, thing), False)
        for cell in OUTSIDE:
            self.assertIs(is_cell(BEND, cell), False)
            self.assertIs(is_place(BEND, cell), False)
            self.assertIs(is_couple(BEND, (cell, (2, 3))), False)
            self.assertIs(is_couple(BEND, ((2, 2), cell)), False)
        self.assertIs(is_cell(ONE, (True, 0)), False)
        self.assertIs(is_place(ONE, (True, True)), False)
        self.assertIs(is_couple(ONE, ((0, 0), (True, 0))), False)
        self.assertIs(is_couple(ONE, ((False, 0), (1, 0))), False)

    def test_no_cell(self):
        for cell in OUTSIDE:
            for function in (kind_of, cells_beside):
                with self.assertRaises(NoCell) as caught:
                    function(BEND, list(cell))
                self.assertEqual(repr(caught.exception.cell), repr(cell))
        for rail in OUTSIDE + posts(BEND) + plots(BEND):
            for function in (ends, sides):
                with self.assertRaises(NoCell) as caught:
                    function(BEND, list(rail))
                self.assertEqual(repr(caught.exception.cell), repr(rail))

    def test_no_place(self):
        for place in OUTSIDE + rails(BEND):
            for function in (rails_at, couples_to):
                with self.assertRaises(NoPlace) as caught:
                    function(BEND, list(place))
                self.assertEqual(repr(caught.exception.place), repr(place))

    def test_unfit_ahead(self):
        for bad in BAD_YARDS + NEVER:
            for function in (kind_of, cells_beside, ends, sides, rails_at, couples_to):
                self.assertRaises(Unfit, function, bad, (0, 0))
                self.assertRaises(Unfit, function, bad, (77, 77))
            for function in (cells, couples, couples_out):
                self.assertRaises(Unfit, function, bad)
            for function in (is_cell, is_place, is_couple):
                self.assertRaises(Unfit, function, bad, (0, 0))
            self.assertRaises(Unfit, places, bad, "post")
            self.assertRaises(Unfit, plot_of, bad, (0, 0))
            self.assertRaises(Unfit, points_to, bad, ((0, 0), (1, 0)))

    def test_unfit(self):
        for function in (kind_of, cells_beside, ends, sides, rails_at, couples_to):
            check_never(self, function, (BEND, (0, 0)), 1, Unfit, ((), ((0, 0), (1, 0)), (0, 0, 0)))
        check_never(self, places, (BEND, "post"), 1, Unfit, ("posts", "Post", ("post",), ["plot"], "post ", 0))
        besides = ((0, -1), (1, 1), (-1, 0), (2, 0), ())
        check_never(self, plot_of, (BEND, (0, 0)), 1, Unfit, besides)
        besides = (
            (), (0, 0), ((0, 0), (0, 0)), ((1, 0), (0, 0)), ((0, 0), (2, 1)), ((3, 3), (2, 3)), ((3, 3), (3, 2)),
            ((0, 0), (-1, 0)), ((0, 0), (1, 0), (1, 0)), ((0, 0),), ((1, 1), (3, 1)), ((0, 0), (0, True)),
        )
        check_never(self, points_to, (BEND, ((0, 0), (1, 0))), 1, Unfit, besides)

    def test_forms(self):
        for yard in (ONE, BEND, FAR, BOX):
            for name in ("cells", "couples", "couples_out"):
                check_calls(self, getattr(module, name), ("yard",), (yard,))
            for cell in cells(yard) + OUTSIDE:
                for name in ("kind_of", "cells_beside"):
                    check_calls(self, getattr(module, name), ("yard", "cell"), (yard, cell))
                for name in ("rails_at", "couples_to"):
                    check_calls(self, getattr(module, name), ("yard", "place"), (yard, cell))
                for name in ("ends", "sides"):
                    check_calls(self, getattr(module, name), ("yard", "rail"), (yard, cell))
            for couple in couples(yard):
                check_calls(self, points_to, ("yard", "couple"), (yard, couple))
            for square in yard:
                check_calls(self, plot_of, ("yard", "square"), (yard, square))
            for kind in ("post", "plot", "rail"):
                check_calls(self, places, ("yard", "kind"), (yard, kind))
            for function in (is_cell, is_place, is_couple):
                self.assertIs(function(thing=(0, 1, 2), yard=as_lists(yard)), False)


def deep_pair():
    """A pair nested nineteen levels deep."""
    thing = (0, 0)
    for _ in range(18):
        thing = (thing, thing)
    return thing


if __name__ == "__main__":
    unittest.main()
