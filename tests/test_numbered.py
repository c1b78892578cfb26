import random
import unittest

from holefloors import numbered as module
from holefloors.counts import how_many
from holefloors.errors import CanNot, NoPlace, TooMany, Unfit
from holefloors.floors import is_floor, some_floor
from holefloors.numbered import first_floor, floor_ahead, floor_at, floor_number, floors_from, last_floor, many_begin
from holefloors.numbered import next_floor, row_of_rails
from holefloors.yards import boxed
from tests.support import ARCH, BAD_YARDS, BEND, BLOCK40, BOX, COMB, CROSS, FAR, FEW, NEVER, NINE, OBLONG, ONE, ROW14
from tests.support import ROW40, SNAKE40, STAIRS, TWO, all_places, cells_by_squares, check_calls, check_never
from tests.support import check_no_place, floors_by_trying, grown, hole_by_words, is_beside, kind_by_words, nested
from tests.support import no_floors, rings_by_walk, run_examples, sample_floors

EXAMPLES = '''
    >>> one, two = ((0, 0),), ((0, 0), (1, 0))
    >>> [row_of_rails(one, own) for own in floors_from(one, first_floor(one, (1, 1)), 9)], how_many(two, (1, 1))
    ([((0, 1), (1, 2), (1, 0), (2, 1)), ((1, 0), (0, 1), (2, 1), (1, 2))], 8)
    >>> floor_at(one, (0, 0), 2), floor_number(one, (((0, 2), (0, 1)), ((1, 1), (1, 0)), ((2, 0), (2, 1)), ((2, 2), (1, 2))))
    ((((0, 2), (0, 1)), ((1, 1), (1, 0)), ((2, 0), (2, 1)), ((2, 2), (1, 2))), 2)
    >>> many_begin(two, (1, 1), ()), many_begin(two, (1, 1), ((1, 0),)), many_begin(two, (1, 1), ((1, 0), (0, 1), (2, 1), (1, 2), (3, 0))), many_begin(one, (1, 1), ((0, 1), (0, 1)))
    (8, 4, 2, 0)
    >>> next_floor(one, floor_at(one, (0, 0), 0)) == floor_at(one, (0, 0), 1), floor_ahead(two, last_floor(two, (1, 1))) == floor_at(two, (1, 1), 6)
    (True, True)
    >>> row_of_rails(two, first_floor(two, (3, 1))), last_floor(one, (1, 1))
    (((0, 1), (1, 2), (1, 0), (3, 2), (3, 0), (4, 1), (2, 1)), (((0, 0), (1, 0)), ((0, 2), (0, 1)), ((2, 0), (2, 1)), ((2, 2), (1, 2))))
    >>> floor_at(one, (1, 1), 2)
    raises CanNot()
    >>> next_floor(one, last_floor(one, (0, 0)))
    raises CanNot()
    >>> first_floor(one, (0, 1))
    raises NoPlace(place=(0, 1))
    >>> floors_from(one, first_floor(one, (1, 1)), 201)
    raises TooMany()
'''
BY_HOLE = (first_floor, last_floor)
BY_FLOOR = (row_of_rails, floor_number, next_floor, floor_ahead)
GREAT = (ROW14, ROW40, BLOCK40, SNAKE40, grown(40, 161))
NO_NUMBERS = NEVER + ((), "1", [1], (1,), -1, -10 ** 40)


def order_by_words(yard, hole):
    posts, _, plots = cells_by_squares(yard)
    return [place for place in sorted(posts) + sorted(plots) if place != hole]


def row_by_words(yard, floor):
    laid = dict(floor)
    return tuple(laid[place] for place in order_by_words(yard, hole_by_words(yard, floor)))


def by_rows(yard, hole):
    """All FLOORS with this HOLE in the order of their rows."""
    return sorted(floors_by_trying(yard, hole), key=lambda floor: row_by_words(yard, floor))


def some_rails(yard, hole, rows, chance):
    """Rows begun: those of FLOORS, also with another RAIL at the end, and such by chance."""
    rails = tuple(sorted(cells_by_squares(yard)[1]))
    found = [(), rails, rails * 3]
    for row in chance.sample(rows, min(len(rows), 8)):
        at = chance.randrange(len(row) + 1)
        found += [row[:at], row, row + rails[:1], row + row[-1:]]
        found += [row[:at] + (chance.choice(rails),), row[:-1] + (chance.choice(rails),)]
    order = order_by_words(yard, hole)
    for _ in range(12):
        row = ()
        for place in order[:chance.randrange(len(order) + 1)]:
            row += (chance.choice([rail for rail in rails if is_beside(place, rail)]),)
        found.append(row)
    return found


class NumberedTest(unittest.TestCase):
    def test_examples(self):
        run_examples(self, EXAMPLES, {**vars(module), "how_many": how_many})

    def test_beside_all_floors(self):
        for yard in FEW + (FAR, ((0, 0), (1, 0), (2, 0), (2, 1))):
            for hole in all_places(yard):
                floors = by_rows(yard, hole)
                self.assertEqual(first_floor(yard, hole), floors[0])
                self.assertEqual(last_floor(yard, hole), floors[-1])
                self.assertRaises(CanNot, floor_at, yard, hole, len(floors))
                for number in list(range(0, len(floors), 1 + len(floors) // 40)) + [len(floors) - 1]:
                    floor = floors[number]
                    self.assertEqual(row_of_rails(yard, floor), row_by_words(yard, floor))
                    self.assertEqual(floor_at(yard, hole, number), floor)
                    self.assertEqual(floor_number(yard, floor), number)
                    self.check_beside(yard, floors, number)
                if len(floors) <= 200:
                    self.assertEqual(floors_from(yard, floors[0], 200), floors)

    def check_beside(self, yard, floors, number):
        floor = floors[number]
        if number + 1 < len(floors):
            self.assertEqual(next_floor(yard, floor), floors[number + 1])
        else:
            self.assertRaises(CanNot, next_floor, yard, floor)
        if number > 0:
            self.assertEqual(floor_ahead(yard, floor), floors[number - 1])
        else:
            self.assertRaises(CanNot, floor_ahead, yard, floor)
        for many in (0, 1, 2, 5):
            self.assertEqual(floors_from(yard, floor, many), floors[number:number + many])

    def test_rows_begun(self):
        chance = random.Random(101)
        for yard in FEW + (FAR, ((0, 0), (1, 0), (2, 0), (2, 1))):
            for hole in all_places(yard)[::2]:
                rows = [row_by_words(yard, floor) for floor in floors_by_trying(yard, hole)]
                for rails in some_rails(yard, hole, rows, chance):
                    many = len([row for row in rows if row[:len(rails)] == rails])
                    self.assertEqual(many_begin(yard, hole, rails), many, (yard, hole, rails))

    def test_all_rows_begun_of_one_square(self):
        for hole in all_places(ONE):
            rows = [row_by_words(ONE, floor) for floor in floors_by_trying(ONE, hole)]
            begun = [()]
            for _ in range(5):
                for rails in begun:
                    many = len([row for row in rows if row[:len(rails)] == rails])
                    self.assertEqual(many_begin(ONE, hole, rails), many)
                begun = [rails + (rail,) for rails in begun for rail in sorted(cells_by_squares(ONE)[1])]

    def test_rings_of_plots(self):
        # Once all POSTS have a RAIL, each RING of PLOTS lies two ways yet.
        for many in range(1, 7):
            for turned in ((), (1,), tuple(range(1, many + 1)), tuple(range(2, many + 1, 3))):
                yard, floor = boxed(many, many), nested(many, turned)
                hole = (many, many)
                row = row_by_words(yard, floor)
                posts = len([place for place in order_by_words(yard, hole) if kind_by_words(place) == "post"])
                self.assertEqual(many_begin(yard, hole, row[:posts]), 2 ** (many // 2))
                self.assertEqual(many_begin(yard, hole, row[:-1]), 1)
                self.assertEqual(many_begin(yard, hole, row), 1)
                self.check_rings_told(yard, hole, floor, row, posts)
                number = floor_number(yard, floor)
                self.assertEqual(floor_at(yard, hole, number), floor)
                before = [rail for rail in range(2 ** (many // 2))]
                start = number - number_among_turned(yard, floor, posts)
                told = [row_of_rails(yard, floor_at(yard, hole, start + own)) for own in before]
                self.assertEqual(told, sorted(told))
                self.assertEqual({own[:posts] for own in told}, {row[:posts]})

    def check_rings_told(self, yard, hole, floor, row, posts):
        """PLOTS told one by one: each RING of PLOTS none of which is told lies two ways."""
        order = order_by_words(yard, hole)
        rings = [ring for ring in rings_by_walk(floor) if kind_by_words(ring[0]) == "plot"]
        for at in range(posts, len(row) + 1, 1 if len(row) < 60 else 5):
            free = [ring for ring in rings if not set(ring) & set(order[:at])]
            self.assertEqual(many_begin(yard, hole, row[:at]), 2 ** len(free))

    def test_rings_told_in_part(self):
        # A RING of four PLOTS round (4, 2); the PLOTS (1, 1), (1, 3) stand ahead of it.
        floors = [floor for floor in floors_by_trying(OBLONG, (4, 2)) if rings_by_walk(floor)]
        rows = [row_by_words(OBLONG, floor) for floor in floors_by_trying(OBLONG, (4, 2))]
        posts = len(cells_by_squares(OBLONG)[0]) - 1
        for floor in floors[::5]:
            row = row_by_words(OBLONG, floor)
            for at in range(posts - 1, len(row) + 1):
                many = len([own for own in rows if own[:at] == row[:at]])
                self.assertEqual(many_begin(OBLONG, (4, 2), row[:at]), many)
            self.assertEqual([many_begin(OBLONG, (4, 2), row[:at]) for at in (posts + 1, posts + 2, posts + 3)], [2, 2, 1])

    def test_great_yards(self):
        chance = random.Random(102)
        for yard in GREAT + (NINE, COMB, OBLONG, ARCH, STAIRS, CROSS):
            for hole in chance.sample(all_places(yard), 2):
                whole = how_many(yard, hole)
                first, last = first_floor(yard, hole), last_floor(yard, hole)
                self.assertEqual((floor_number(yard, first), floor_number(yard, last)), (0, whole - 1))
                self.assertEqual((floor_at(yard, hole, 0), floor_at(yard, hole, whole - 1)), (first, last))
                self.assertRaises(CanNot, floor_ahead, yard, first)
                self.assertRaises(CanNot, next_floor, yard, last)
                for number in (whole, whole + 1, 10 ** 40):
                    self.assertRaises(CanNot, floor_at, yard, hole, number)
                for number in (chance.randrange(whole),):
                    floor = floor_at(yard, hole, number)
                    self.assertTrue(is_floor(yard, floor) and hole_by_words(yard, floor) == hole)
                    self.assertEqual(floor_number(yard, floor), number)
                    self.check_run(yard, floor, number, whole)

    def check_run(self, yard, floor, number, whole):
        """The FLOORS from one on are in the order of their rows, one behind the other, by their numbers, too."""
        run = floors_from(yard, floor, 200)
        self.assertEqual(len(run), min(200, whole - number))
        self.assertEqual(run[0], floor)
        rows = [row_by_words(yard, own) for own in run]
        self.assertEqual(rows, sorted(set(rows)))
        self.assertEqual(floor_number(yard, run[-1]), number + len(run) - 1)
        for at in range(0, len(run) - 1, 80):
            self.assertEqual(next_floor(yard, run[at]), run[at + 1])
            self.assertEqual(floor_ahead(yard, run[at + 1]), run[at])
        for many in (0, 1, 7, 199):
            self.assertEqual(floors_from(yard, floor, many), run[:many])

    def test_sums_of_rows_begun(self):
        chance = random.Random(103)
        for yard in GREAT + (NINE,):
            for floor in sample_floors(yard, 28, 60):
                hole, row = hole_by_words(yard, floor), row_by_words(yard, floor)
                order = order_by_words(yard, hole)
                rails = sorted(cells_by_squares(yard)[1])
                self.assertEqual(many_begin(yard, hole, ()), how_many(yard, hole))
                self.assertEqual(many_begin(yard, hole, row), 1)
                for at in [0, len(order) - 1] + chance.sample(range(len(order)), 2):
                    near = [rail for rail in rails if is_beside(order[at], rail)]
                    numbers = [many_begin(yard, hole, row[:at] + (rail,)) for rail in near]
                    self.assertEqual(sum(numbers), many_begin(yard, hole, row[:at]))
                    lesser = sum(many for rail, many in zip(near, numbers) if rail < row[at])
                    number = floor_number(yard, floor)
                    self.assertLessEqual(lesser, number)

    def test_too_many(self):
        for floor in (some_floor(ROW40, (1, 1)), first_floor(ROW40, (0, 0)), last_floor(ROW40, (0, 0))):
            self.assertEqual(floors_from(ROW40, floor, 0), [])
            self.assertLessEqual(len(floors_from(ROW40, floor, 200)), 200)
            for many in (201, 202, 10 ** 6, 10 ** 40):
                self.assertRaises(TooMany, floors_from, ROW40, floor, many)
        self.assertRaises(Unfit, floors_from, ONE, nested(1)[1:], 201)
        self.assertRaises(Unfit, floors_from, ((0, 0), (0, 0)), nested(1), 201)

    def test_errors(self):
        for function in BY_HOLE + (floor_at, many_begin):
            more = (0,) if function == floor_at else ((),) if function == many_begin else ()
            for hole in ((0, 0), (1, 0)):
                check_never(self, function, (ONE, hole) + more, 0, Unfit, BAD_YARDS)
            check_never(self, function, (ONE, (0, 0)) + more, 1, Unfit, ((), ((0, 0), (1, 0))))
            check_no_place(self, function, (BEND, (0, 0)) + more, 1)
        for number in NO_NUMBERS:
            for hole in ((0, 0), (1, 0)):
                self.assertRaises(Unfit, floor_at, ONE, hole, number)
            self.assertRaises(Unfit, floors_from, ONE, nested(1), number)
        self.assertRaises(NoPlace, floor_at, ONE, (1, 0), 10 ** 40)
        no_rails = ((0, 1), (((0, 1),),), ((0, 0),), ((1, 1),), ((3, 0),), ((0, 1), (2, 2)), ((0, 1), None), ((-1, 0),))
        for hole in ((0, 0), (1, 0)):
            check_never(self, many_begin, (ONE, hole, ()), 2, Unfit, no_rails + (((0, True),), ((0, 1, 1),)))
        self.assertEqual(many_begin(ONE, (0, 0), ((2, 1), (0, 1))), 0)
        for function in BY_FLOOR + (floors_from,):
            more = (1,) if function == floors_from else ()
            for floor in (nested(1), nested(1)[1:]):
                check_never(self, function, (ONE, floor) + more, 0, Unfit, BAD_YARDS)
            check_never(self, function, (ONE, nested(1)) + more, 1, Unfit, no_floors(ONE, nested(1)) + ((),))

    def test_forms(self):
        for yard in (ONE, BEND):
            for hole in all_places(yard)[::2] + [(1, 0)]:
                for function in BY_HOLE:
                    check_calls(self, function, ("yard", "hole"), (yard, hole))
                for number in (0, 1, 5, 10 ** 40):
                    check_calls(self, floor_at, ("yard", "hole", "number"), (yard, hole, number))
                for rails in ((), ((0, 1),), ((1, 0), (0, 1)), ((1, 0), (1, 0))):
                    check_calls(self, many_begin, ("yard", "hole", "rails"), (yard, hole, rails))
            for floor in sample_floors(yard, 29, 4):
                for function in BY_FLOOR:
                    check_calls(self, function, ("yard", "floor"), (yard, floor))
                for many in (0, 1, 3, 201):
                    check_calls(self, floors_from, ("yard", "floor", "many"), (yard, floor, many))


def number_among_turned(yard, floor, posts):
    """How many FLOORS ahead of this one have the same RAILS at all POSTS: tried one by one."""
    many, here = 0, floor
    row = row_by_words(yard, floor)[:posts]
    while True:
        try:
            here = floor_ahead(yard, here)
        except CanNot:
            return many
        if row_by_words(yard, here)[:posts] != row:
            return many
        many += 1


if __name__ == "__main__":
    unittest.main()
