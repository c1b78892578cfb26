import unittest
from fractions import Fraction
from itertools import combinations
from math import gcd

from holefloors import shares as module
from holefloors.counts import free_many, how_many
from holefloors.errors import NoCell, NoPlace, Unfit
from holefloors.mirrored import cell_moved, moved
from holefloors.shares import couple_many, couple_share, free_share, rail_many, rail_share, round_share
from tests.support import ARCH, BAD_YARDS, BEND, BLOCK40, BOX, COMB, CROSS, FAR, FEW, NINE, OBLONG, ONE, ROW14, ROW40
from tests.support import STAIRS, TWO, all_places, cells_by_squares, check_calls, check_never, check_no_place
from tests.support import couples_by_words, floors_by_trying, free_by_trying, grown, is_beside, kind_by_words, outcome
from tests.support import run_examples

EXAMPLES = '''
    >>> box, one = ((0, 0), (0, 1), (1, 0), (1, 1)), ((0, 0),)
    >>> nine = tuple([(east, north) for east in range(3) for north in range(3)])
    >>> free_share(box, (2, 2)), free_share(box, (1, 1)), free_share(box, (0, 0)), free_share(nine, (2, 2))
    ((48, 49), (0, 1), (1, 1), (6272, 6499))
    >>> rail_many(box, (1, 0)), rail_share(box, (1, 0)), rail_share(box, (2, 1)), rail_share(one, (0, 1))
    (136, (17, 24), (7, 12), (3, 4))
    >>> [couple_many(box, (2, 2), own) for own in (((0, 0), (1, 0)), ((2, 0), (2, 1)), ((1, 1), (1, 0)), ((2, 2), (2, 1)))], couple_share(box, (2, 2), ((1, 1), (1, 0)))
    ([96, 112, 56, 0], (7, 24))
    >>> couple_many(box, (0, 0), ((2, 0), (2, 1))), couple_many(box, (1, 1), ((2, 0), (2, 1))), couple_share(one, (0, 0), ((2, 2), (1, 2)))
    (40, 0, (1, 2))
    >>> [round_share(box, own) for own in ((0, 0), (2, 2), (1, 1))], round_share(one, (0, 0))
    ([(17, 12), (7, 3), (31, 12)], (3, 2))
    >>> rail_many(box, (1, 1))
    raises NoCell(cell=(1, 1))
    >>> couple_many(box, (1, 0), ((0, 0), (1, 0)))
    raises NoPlace(place=(1, 0))
    >>> couple_share(box, (2, 2), ((0, 0), (1, 1)))
    raises Unfit()
'''
GREAT = (ROW14, ROW40, BLOCK40, grown(40, 131))


def trees_by_trying(yard):
    """All spanning trees of the POSTS, each a set of RAILS."""
    posts, rails, _ = cells_by_squares(yard)
    found = []
    for some in combinations(sorted(rails), len(posts) - 1):
        lot = {post: post for post in posts}

        def top(post):
            while lot[post] != post:
                post = lot[post]
            return post

        for rail in some:
            ends = [post for post in posts if is_beside(post, rail)]
            if top(ends[0]) == top(ends[1]):
                break
            lot[top(ends[0])] = top(ends[1])
        else:
            found.append(frozenset(some))
    return found


def has_rail(floor, rail):
    return any(own == rail and kind_by_words(place) == "post" for place, own in floor)


class SharesTest(unittest.TestCase):
    def test_examples(self):
        run_examples(self, EXAMPLES, vars(module))

    def least(self, pair, many, whole):
        """The pair is many over whole, without a common divisor."""
        self.assertIs(type(pair), tuple)
        self.assertEqual(Fraction(*pair), Fraction(many, whole))
        self.assertEqual(gcd(*pair), 1)
        self.assertGreater(pair[1], 0)

    def test_rails_beside_spanning_trees(self):
        for yard in FEW + (FAR, STAIRS[:3]):
            trees = trees_by_trying(yard)
            self.assertEqual(free_many(yard), len(trees))
            posts, rails, plots = cells_by_squares(yard)
            for rail in sorted(rails):
                many = len([tree for tree in trees if rail in tree])
                self.assertEqual(rail_many(yard, rail), many)
                self.least(rail_share(yard, rail), many, len(trees))
            for place in all_places(yard):
                many = sum(len([rail for rail in tree if is_beside(place, rail)]) for tree in trees)
                self.least(round_share(yard, place), many, len(trees))

    def test_free_floors_are_spanning_trees(self):
        for yard in FEW + (FAR,):
            trees = sorted(sorted(tree) for tree in trees_by_trying(yard))
            for hole in sorted(cells_by_squares(yard)[0]):
                free = free_by_trying(yard, hole)
                told = [sorted(rail for place, rail in floor if kind_by_words(place) == "post") for floor in free]
                self.assertEqual(sorted(told), trees)

    def test_couples_beside_all_floors(self):
        for yard in FEW + (FAR,):
            for hole in all_places(yard)[::1 if len(yard) < 3 else 2]:
                every, free = floors_by_trying(yard, hole), free_by_trying(yard, hole)
                self.least(free_share(yard, hole), len(free), len(every))
                for couple in couples_by_words(yard):
                    many = len([floor for floor in free if couple in floor])
                    self.assertEqual(couple_many(yard, hole, couple), many, (yard, hole, couple))
                    self.least(couple_share(yard, hole, couple), many, free_many(yard))
                if kind_by_words(hole) == "post":
                    for rail in sorted(cells_by_squares(yard)[1]):
                        many = len([floor for floor in free if has_rail(floor, rail)])
                        self.assertEqual(rail_many(yard, rail), many)

    def check_sums(self, yard, holes, every_rail):
        posts, rails, plots = cells_by_squares(yard)
        free = free_many(yard)
        if every_rail:
            self.assertEqual(sum(rail_many(yard, rail) for rail in rails), free * (len(posts) - 1))
        for hole in holes:
            share = free_share(yard, hole)
            if kind_by_words(hole) == "plot":
                self.assertEqual(share, (0, 1))
                self.assertEqual({couple_many(yard, hole, own) for own in couples_by_words(yard)[::9]}, {0})
                self.assertEqual({couple_share(yard, hole, own) for own in couples_by_words(yard)[::9]}, {(0, 1)})
                continue
            self.least(share, free, how_many(yard, hole))
            for place in all_places(yard)[::5]:
                numbers = [couple_many(yard, hole, own) for own in couples_by_words(yard) if own[0] == place]
                self.assertEqual(sum(numbers), 0 if place == hole else free)
            for rail in sorted(rails)[::9]:
                ends = [post for post in posts if is_beside(post, rail)]
                self.assertEqual(rail_many(yard, rail), sum(couple_many(yard, hole, (end, rail)) for end in ends))
                # The RAIL is of a PLOT in all other free FLOORS.
                sides = [plot for plot in plots if is_beside(plot, rail)]
                many = sum(couple_many(yard, hole, (side, rail)) for side in sides)
                self.assertEqual(free - rail_many(yard, rail), many)
                self.least(rail_share(yard, rail), rail_many(yard, rail), free)

    def test_sums(self):
        for yard in FEW + (FAR, ARCH, STAIRS, CROSS, COMB, OBLONG, NINE, grown(12, 12)):
            self.check_sums(yard, all_places(yard)[::4], True)
        for yard in GREAT:
            self.check_sums(yard, all_places(yard)[3::40], False)
            place = all_places(yard)[len(yard) // 2]
            added = sum(Fraction(*rail_share(yard, own)) for own in cells_by_squares(yard)[1] if is_beside(place, own))
            self.least(round_share(yard, place), added.numerator, added.denominator)
        self.check_sums(BLOCK40, (), True)

    def test_moved_yards_have_the_same_shares(self):
        for yard in (BEND, FAR, ARCH, COMB, OBLONG):
            for number in range(8):
                other = moved(yard, number)
                for place in all_places(yard)[::4]:
                    its = cell_moved(yard, place, number)
                    self.assertEqual(free_share(other, its), free_share(yard, place))
                    self.assertEqual(round_share(other, its), round_share(yard, place))
                for rail in sorted(cells_by_squares(yard)[1])[::3]:
                    self.assertEqual(rail_share(other, cell_moved(yard, rail, number)), rail_share(yard, rail))

    def test_holes_of_all_kinds(self):
        self.assertEqual(free_share(NINE, (0, 2)), (1, 1))
        self.assertEqual(free_share(NINE, (4, 2)), (6272, 6499))
        self.assertEqual(free_share(NINE, (3, 3)), (0, 1))
        self.assertEqual(couple_share(NINE, (3, 3), ((0, 0), (1, 0))), (0, 1))
        for hole in ((0, 0), (2, 2), (2, 0)):
            # The HOLE itself has no COUPLE.
            for rail in ((hole[0] + 1, hole[1]), (hole[0], hole[1] + 1)):
                self.assertEqual(couple_many(NINE, hole, (hole, rail)), 0)
                self.assertEqual(couple_share(NINE, hole, (hole, rail)), (0, 1))

    def test_no_cell(self):
        for yard in (ONE, BEND):
            for own in all_places(yard) + [(3, 4), (-1, 0), (0, -1), (10 ** 6, 1)]:
                if own not in cells_by_squares(yard)[1]:
                    for function in (rail_many, rail_share):
                        self.assertEqual(outcome(function, (yard, list(own))), f"raises NoCell(cell={own})")

    def test_errors(self):
        couple = ((0, 0), (1, 0))
        for function in (free_share, round_share):
            for place in ((0, 0), (1, 0)):
                check_never(self, function, (ONE, place), 0, Unfit, BAD_YARDS)
            check_never(self, function, (ONE, (0, 0)), 1, Unfit, ((), couple))
            check_no_place(self, function, (BEND, (0, 0)), 1)
        for function in (rail_many, rail_share):
            for rail in ((1, 0), (0, 0)):
                check_never(self, function, (ONE, rail), 0, Unfit, BAD_YARDS)
            check_never(self, function, (ONE, (1, 0)), 1, Unfit, ((), couple))
            self.assertRaises(NoCell, function, TWO, (1, 1))
        for function in (couple_many, couple_share):
            # All that is unfit comes ahead of a HOLE that is no PLACE; a HOLE at a PLOT does not save a COUPLE.
            for hole in ((0, 0), (1, 0), (1, 1)):
                check_never(self, function, (ONE, hole, couple), 0, Unfit, BAD_YARDS)
                check_never(self, function, (ONE, hole, couple), 2, Unfit, (
                    couple[::-1], ((0, 0), (1, 1)), ((0, 0), (2, 0)), ((4, 0), (4, 1)), (couple,), couple + ((0, 0),),
                    ((0, False), (1, 0)), ((2, 1), (2, 0)), ((-1, -1), (0, -1)),
                ))
            check_never(self, function, (ONE, (0, 0), couple), 1, Unfit, ((), couple))
            check_no_place(self, function, (BEND, (0, 0), couple), 1)
            self.assertRaises(NoPlace, function, ONE, (2, 1), couple)

    def test_forms(self):
        for yard in (ONE, BEND, BOX):
            for place in all_places(yard)[::2] + [(1, 0)]:
                for function, name in ((free_share, "hole"), (round_share, "place")):
                    check_calls(self, function, ("yard", name), (yard, place))
                for couple in couples_by_words(yard)[::5]:
                    for function in (couple_many, couple_share):
                        check_calls(self, function, ("yard", "hole", "couple"), (yard, place, couple))
            for rail in sorted(cells_by_squares(yard)[1])[::2] + [(0, 0)]:
                for function in (rail_many, rail_share):
                    check_calls(self, function, ("yard", "rail"), (yard, rail))


if __name__ == "__main__":
    unittest.main()
