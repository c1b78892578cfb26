import random
import unittest
from fractions import Fraction
from math import gcd

from holefloors import rounds as module
from holefloors.counts import free_many, how_many
from holefloors.errors import NoPlace, Unfit
from holefloors.mirrored import cell_moved, moved
from holefloors.rounds import many_with_rings, mean_rings, most_rings, ring_counts, ring_ways
from holefloors.tables import line_of, plain_table
from holefloors.yards import boxed, inner_posts
from tests.support import ARCH, BAD_YARDS, BEND, BLOCK40, BOX, COMB, CROSS, FAR, FEW, NEVER, NINE, OBLONG, ONE, ROW14
from tests.support import ROW40, SNAKE40, STAIRS, TWO, all_places, cells_by_squares, check_calls, check_never
from tests.support import check_no_place, count_by_trying, floors_by_trying, grown, kind_by_words, rings_by_walk
from tests.support import run_examples, small_yards

EXAMPLES = '''
    >>> box, one, oblong = ((0, 0), (0, 1), (1, 0), (1, 1)), ((0, 0),), ((0, 0), (0, 1), (1, 0), (1, 1), (2, 0), (2, 1))
    >>> [ring_counts(box, own) for own in ((2, 2), (0, 0), (1, 1))], ring_counts(one, (1, 1)), ring_ways(box, (2, 2)), ring_ways(box, (1, 1))
    ([(192, 4), (192,), (0, 112)], (0, 2), (192, 1), (0, 56))
    >>> nine = tuple([(east, north) for east in range(3) for north in range(3)])
    >>> [ring_counts(nine, own) for own in ((2, 2), (3, 3), (1, 1))], ring_ways(nine, (3, 3)), [most_rings(nine, own) for own in ((0, 2), (2, 4), (3, 3))]
    ([(100352, 3632), (0, 75264, 8), (0, 60032)], (0, 37632, 1), [0, 1, 2])
    >>> [many_with_rings(nine, (3, 3), own) for own in (-1, 0, 1, 2, 3)], mean_rings(box, (2, 2)), mean_rings(one, (1, 1)), mean_rings(oblong, (0, 0))
    ([0, 0, 75264, 8, 0], (1, 49), (1, 1), (0, 1))
    >>> ring_counts(tuple([(east, north) for east in range(5) for north in range(5)]), (5, 5))
    (0, 28807977369600, 30268133376, 32)
    >>> ring_counts(box, (1, 0))
    raises NoPlace(place=(1, 0))
    >>> ring_counts((), (0, 0))
    raises Unfit()
'''
BY_HOLE = (ring_counts, ring_ways, most_rings, mean_rings)
GREAT = (ROW14, ROW40, BLOCK40, SNAKE40, grown(40, 121), grown(40, 122))


def post_rings(floor):
    return [ring for ring in rings_by_walk(floor) if kind_by_words(ring[0]) == "post"]


def without_ways(floor):
    """The POSTS' COUPLES of a FLOOR, but of each RING just which PLACES and RAILS it has."""
    laid = dict(floor)
    told = {place: rail for place, rail in floor if kind_by_words(place) == "post"}
    found = []
    for ring in post_rings(floor):
        found.append((frozenset(ring), frozenset(laid[place] for place in ring)))
        for place in ring:
            del told[place]
    return frozenset(told.items()), frozenset(found)


def fraction_determinant(rows):
    rows = [[Fraction(entry) for entry in row] for row in rows]
    found = Fraction(1)
    for step in range(len(rows)):
        at = next((at for at in range(step, len(rows)) if rows[at][step]), None)
        if at is None:
            return Fraction(0)
        if at != step:
            rows[step], rows[at] = rows[at], rows[step]
            found = -found
        found *= rows[step][step]
        for low in range(step + 1, len(rows)):
            times = rows[low][step] / rows[step][step]
            rows[low] = [mine - times * its for mine, its in zip(rows[low], rows[step])]
    return found


def weighed(yard, hole, weight):
    """The determinant of the POSTS' TABLE in which RAILS of the LINE count 0 less z, and 0 less 1/z the other way."""
    posts = [post for post in sorted(cells_by_squares(yard)[0]) if post != hole]
    rows = [list(row) for row in plain_table(yard, hole, "post")]
    for x, y in line_of(yard, hole, "post"):
        low, high = posts.index((x, y - 1)), posts.index((x, y + 1))
        rows[low][high], rows[high][low] = -weight, -1 / weight
    return fraction_determinant(rows)


class RoundsTest(unittest.TestCase):
    def test_examples(self):
        run_examples(self, EXAMPLES, vars(module))

    def check(self, yard, hole, floors):
        """All that is told beside RINGS counted, FLOOR by FLOOR."""
        numbers, lots = {}, {}
        for floor in floors:
            many = len(post_rings(floor))
            numbers[many] = numbers.get(many, 0) + 1
            lots.setdefault(many, set()).add(without_ways(floor))
        most = max(numbers)
        counts = tuple(numbers.get(many, 0) for many in range(most + 1))
        self.assertEqual(ring_counts(yard, hole), counts, (yard, hole))
        self.assertEqual(ring_ways(yard, hole), tuple(len(lots.get(many, ())) for many in range(most + 1)))
        self.assertEqual(most_rings(yard, hole), most)
        for number in list(range(-3, most + 4)) + [-10 ** 6, 10 ** 6, 10 ** 30]:
            self.assertEqual(many_with_rings(yard, hole, number), numbers.get(number, 0))
        added = sum(number * many for number, many in numbers.items())
        told = mean_rings(yard, hole)
        self.assertEqual(Fraction(*told), Fraction(added, len(floors)))
        self.assertEqual(gcd(*told), 1)

    def test_beside_all_floors(self):
        for yard in small_yards(3) + [BOX, FAR, ((0, 0), (0, 1), (0, 2), (1, 1)), ((3, 4), (3, 5), (4, 5), (4, 6))]:
            for hole in all_places(yard):
                self.check(yard, hole, floors_by_trying(yard, hole))

    def test_yards_of_some_squares(self):
        for yard, holes in ((OBLONG, ((2, 2), (4, 2), (3, 1), (0, 0))), (COMB, ((5, 1), (2, 2), (0, 4)))):
            for hole in holes:
                if count_by_trying(yard, hole) < 5000:
                    self.check(yard, hole, floors_by_trying(yard, hole))

    def check_sums(self, yard, hole):
        counts, ways = ring_counts(yard, hole), ring_ways(yard, hole)
        kind = kind_by_words(hole)
        self.assertEqual(sum(counts), how_many(yard, hole), (yard, hole))
        self.assertEqual(counts[0], free_many(yard) if kind == "post" else 0)
        self.assertEqual(counts, tuple(4 ** at * many // (1 if kind == "post" else 2) for at, many in enumerate(ways)))
        self.assertEqual(most_rings(yard, hole), len(counts) - 1)
        self.assertGreater(counts[-1], 0)
        self.assertLessEqual(len(counts) - 1, len(line_of(yard, hole, "post")))
        if kind == "plot":
            self.assertGreater(most_rings(yard, hole), 0)
        elif hole not in inner_posts(yard):
            self.assertEqual(counts, (free_many(yard),))
        else:
            self.assertGreater(most_rings(yard, hole), 0)
        return counts, ways

    def test_sums(self):
        for yard in (STAIRS, CROSS, ARCH, COMB, NINE, OBLONG, boxed(4, 3), boxed(5, 5), grown(20, 20)):
            for hole in all_places(yard)[::3] + list(inner_posts(yard)):
                self.check_sums(yard, hole)
        for yard in GREAT:
            for hole in all_places(yard)[::12] + list(inner_posts(yard)[::5]):
                self.check_sums(yard, hole)

    def test_polynomial(self):
        chance = random.Random(5)
        for yard in FEW + (FAR, NINE, ARCH, COMB, boxed(4, 4), boxed(5, 3)):
            for hole in all_places(yard)[::3] + list(inner_posts(yard)[:2]):
                for weight in (Fraction(-1), Fraction(2), Fraction(chance.randrange(1, 99), chance.randrange(-99, 0))):
                    times = 2 - weight - 1 / weight
                    told = sum(many * times ** at for at, many in enumerate(ring_ways(yard, hole)))
                    self.assertEqual(told, weighed(yard, hole, weight), (yard, hole, weight))

    def test_boxes(self):
        for many in range(1, 7):
            # A HOLE amid: the greatest number of RINGS are all POSTS and PLOTS, one within the other.
            yard, hole = boxed(many, many), (many, many)
            self.assertEqual(most_rings(yard, hole), (many + 1) // 2)
            self.assertEqual(ring_ways(yard, hole)[-1], 1)
            self.assertEqual(ring_counts(yard, hole)[-1], 2 ** many)
        self.assertEqual(ring_counts(BLOCK40, (7, 5)), (0, 2465045536471900913664, 4338828590963712000, 42107150336))
        self.assertEqual(sum(ring_counts(BLOCK40, (9, 5))), count_by_trying(BLOCK40, (9, 5)))

    def test_moved_yards_have_the_same_numbers(self):
        for yard in (BEND, FAR, ARCH, COMB, OBLONG, STAIRS, grown(9, 9), grown(14, 3)):
            for hole in all_places(yard)[::3]:
                for number in range(8):
                    other, its = moved(yard, number), cell_moved(yard, hole, number)
                    for function in BY_HOLE:
                        self.assertEqual(function(other, its), function(yard, hole))

    def test_rows(self):
        for many in list(range(1, 15)) + [40]:
            yard = boxed(many, 1)
            for hole in ((0, 0), (2 * many, 2)):
                self.assertEqual(ring_counts(yard, hole), (free_many(yard),))
                self.assertEqual(mean_rings(yard, hole), (0, 1))
            for hole in ((1, 1), (2 * (many // 2) + 1, 1), (2 * many - 1, 1)):
                if hole in all_places(yard):
                    self.assertEqual(ring_counts(yard, hole), (0, how_many(yard, hole)))
                    self.assertEqual(mean_rings(yard, hole), (1, 1))

    def test_errors(self):
        for function in BY_HOLE:
            for hole in ((0, 0), (1, 0)):
                check_never(self, function, (ONE, hole), 0, Unfit, BAD_YARDS)
            check_never(self, function, (ONE, (0, 0)), 1, Unfit, ((), ((0, 0), (1, 0))))
            for yard in (ONE, BEND):
                check_no_place(self, function, (yard, (0, 0)), 1)
        for hole in ((0, 0), (1, 0)):
            check_never(self, many_with_rings, (ONE, hole, 0), 0, Unfit, BAD_YARDS)
            for number in NEVER + ((), "1", [1], (1,)):
                if number not in (-1, -7) or isinstance(number, bool):
                    self.assertRaises(Unfit, many_with_rings, ONE, hole, number)
        check_never(self, many_with_rings, (ONE, (0, 0), 0), 1, Unfit)
        for number in (-1, 0, 1):
            check_no_place(self, many_with_rings, (ONE, (0, 0), number), 1)
            self.assertRaises(NoPlace, many_with_rings, TWO, (2, 1), number)

    def test_forms(self):
        for yard in (ONE, BEND, BOX):
            for hole in all_places(yard) + [(1, 0)]:
                for function in BY_HOLE:
                    check_calls(self, function, ("yard", "hole"), (yard, hole))
                for number in (-1, 0, 1):
                    check_calls(self, many_with_rings, ("yard", "hole", "number"), (yard, hole, number))


if __name__ == "__main__":
    unittest.main()
