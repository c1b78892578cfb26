import unittest

from holefloors import counts
from holefloors.cells import cells, kind_of, places
from holefloors.counts import by_plots, by_posts, free_many, fullest, how_many, many_each, many_in_all
from holefloors.counts import shut_many
from holefloors.errors import NoPlace, Unfit
from holefloors.mirrored import cell_moved, moved
from holefloors.tables import determinant, plain_table
from holefloors.yards import inner_posts, rails
from tests.support import ARCH, BAD_YARDS, BEND, BLOCK40, BOX, COMB, FAR, NINE, OBLONG, ONE, ROW40, SMALL
from tests.support import SNAKE40, TWO, all_places, check_calls, check_never, count_by_trying, floors_by_trying
from tests.support import grown, has_post_ring, outcome, run_examples, small_yards

EXAMPLES = '''
    >>> many_each(one), many_in_all(one), free_many(one)
    ([((0, 0), 4), ((0, 2), 4), ((1, 1), 2), ((2, 0), 4), ((2, 2), 4)], 18, 4)
    >>> how_many(two, (0, 0)), how_many(two, (1, 1)), by_posts(two, (1, 1)), by_plots(two, (4, 2)), free_many(two), many_in_all(two)
    (15, 8, 8, 15, 15, 106)
    >>> how_many(box, (2, 2)), how_many(box, (0, 0)), how_many(box, (1, 3)), shut_many(box, (2, 2)), shut_many(box, (4, 2)), shut_many(box, (1, 3)), fullest(box)
    (196, 192, 112, 4, 0, 112, ((2, 2),))
    >>> ell = ((0, 0), (0, 1), (1, 0))
    >>> [how_many(ell, own) for own in ((2, 2), (1, 1), (1, 3), (3, 1))], many_in_all(ell), len(fullest(ell))
    ([56, 32, 30, 30], 540, 8)
    >>> nine = tuple([(x, y) for x in range(3) for y in range(3)])
    >>> how_many(nine, (0, 6)), how_many(nine, (2, 2)), how_many(nine, (3, 3)), how_many(nine, (3, 1)), shut_many(nine, (4, 2))
    (100352, 103984, 75272, 66304, 3632)
    >>> wide = tuple([(x, y) for x in range(8) for y in range(5)])
    >>> how_many(wide, (8, 4)), free_many(wide)
    (2983526765294535143424, 2662079368040434932480)
    >>> how_many(one, (3, 3))
    raises NoPlace(place=(3, 3))
    >>> free_many(((0, 0), (1, 1)))
    raises Unfit()
'''
BY_HOLE = ("how_many", "by_posts", "by_plots", "shut_many")
BY_YARD = ("free_many", "many_each", "many_in_all", "fullest")
FORTY = (ROW40, BLOCK40, SNAKE40, grown(40, 21), grown(40, 22))


class CountsTest(unittest.TestCase):
    def test_examples(self):
        run_examples(self, EXAMPLES, {**vars(counts), "one": ONE, "two": TWO, "box": BOX})

    def test_small_yards_floor_by_floor(self):
        for yard in small_yards(3) + [BOX, FAR]:
            for hole in all_places(yard):
                told = floors_by_trying(yard, hole)
                shut = len([floor for floor in told if has_post_ring(floor)])
                for function in (how_many, by_posts, by_plots):
                    self.assertEqual(function(yard, hole), len(told), (yard, hole))
                self.assertEqual(shut_many(yard, hole), shut)
                if kind_of(yard, hole) == "post":
                    self.assertEqual(free_many(yard), len(told) - shut)
                else:
                    self.assertEqual(shut, len(told))

    def test_counts_by_trying(self):
        yards = small_yards(5) + [ARCH, NINE, COMB, OBLONG] + [grown(many, many) for many in (8, 10, 12)]
        for yard in yards:
            for hole in all_places(yard):
                many = count_by_trying(yard, hole)
                for function in (how_many, by_posts, by_plots):
                    self.assertEqual(function(yard, hole), many, (yard, hole))

    def test_yards_of_forty(self):
        for yard in FORTY:
            own = all_places(yard)
            free = free_many(yard)
            inner = inner_posts(yard)
            for hole in own[::9] + list(inner[::5]):
                many = how_many(yard, hole)
                self.assertEqual(by_posts(yard, hole), many)
                self.assertEqual(by_plots(yard, hole), many)
                if kind_of(yard, hole) == "plot":
                    self.assertEqual(shut_many(yard, hole), many)
                    self.assertEqual(many % 2, 0)
                else:
                    self.assertEqual(shut_many(yard, hole), many - free)
                    self.assertEqual(shut_many(yard, hole) % 4, 0)
                    self.assertEqual(shut_many(yard, hole) > 0, hole in inner)

    def test_exact_great_numbers(self):
        # A ladder of n SQUARES has as many spanning trees as this row tells.
        before, here = 1, 4
        for _ in range(39):
            before, here = here, 4 * here - before
        self.assertEqual(free_many(ROW40), here)
        self.assertEqual(how_many(ROW40, (40, 2)), here)
        self.assertEqual(many_each(ROW40)[0], ((0, 0), here))
        self.assertEqual(count_by_trying(BLOCK40, (9, 5)), how_many(BLOCK40, (9, 5)))
        self.assertEqual(count_by_trying(ROW40, (41, 1)), how_many(ROW40, (41, 1)))
        self.assertEqual(count_by_trying(BLOCK40, (8, 4)), how_many(BLOCK40, (8, 4)))

    def test_free_ones(self):
        for yard in SMALL + (ARCH, NINE, COMB, SNAKE40):
            own = places(yard, "post")
            free = free_many(yard)
            for hole in own[::3]:
                for kind in ("post", "plot"):
                    self.assertEqual(determinant(plain_table(yard, hole, kind)), free)
                if hole not in inner_posts(yard):
                    self.assertEqual(how_many(yard, hole), free)
                    self.assertEqual(shut_many(yard, hole), 0)

    def test_lists(self):
        for yard in SMALL + (ARCH, NINE):
            each = many_each(yard)
            self.assertEqual(each, [(place, how_many(yard, place)) for place in all_places(yard)])
            numbers = [many for _, many in each]
            self.assertEqual(many_in_all(yard), sum(numbers))
            self.assertEqual(fullest(yard), tuple(place for place, many in each if many == max(numbers)))
        self.assertEqual(len(many_each(BLOCK40)), 94)
        self.assertEqual(fullest(ONE), ((0, 0), (0, 2), (2, 0), (2, 2)))

    def test_moved_yards_have_the_same_numbers(self):
        for yard in (BEND, FAR, ARCH, COMB):
            for number in range(8):
                other = moved(yard, number)
                for place, many in many_each(yard)[::4]:
                    self.assertEqual(how_many(other, cell_moved(yard, place, number)), many)

    def test_no_place(self):
        for yard in (ONE, BEND):
            for hole in rails(yard) + ((3, 3), (-1, -1), (10, 0)):
                for name in BY_HOLE:
                    self.assertEqual(outcome(getattr(counts, name), (yard, list(hole))), f"raises NoPlace(place={hole})")

    def test_unfit(self):
        for name in BY_HOLE:
            for hole in ((0, 0), (1, 0)):
                check_never(self, getattr(counts, name), (ONE, hole), 0, Unfit, BAD_YARDS)
            check_never(self, getattr(counts, name), (ONE, (0, 0)), 1, Unfit, ((), ((0, 0), (1, 0))))
        for name in BY_YARD:
            check_never(self, getattr(counts, name), (ONE,), 0, Unfit, BAD_YARDS)
        self.assertRaises(NoPlace, shut_many, ONE, (1, 0))

    def test_forms(self):
        for yard in (ONE, TWO, BEND, FAR):
            for name in BY_YARD:
                check_calls(self, getattr(counts, name), ("yard",), (yard,))
            for hole in cells(yard):
                for name in BY_HOLE:
                    check_calls(self, getattr(counts, name), ("yard", "hole"), (yard, hole))


if __name__ == "__main__":
    unittest.main()
