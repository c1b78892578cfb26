import unittest

from holefloors import mirrored
from holefloors.cells import cells, kind_of
from holefloors.errors import NoCell, Unfit
from holefloors.floors import all_floors, hole_of, is_floor, some_floor
from holefloors.mirrored import cell_moved, floor_moved, floors_alike, least_seen, move_back, moved, moves_of
from holefloors.mirrored import moves_put, seen_alike
from holefloors.yards import is_yard, rails, sizes
from tests.support import ARCH, BAD_YARDS, BEND, BLOCK40, BOX, COMB, CROSS, FAR, NEVER, ONE, SMALL, STAIRS, TWO
from tests.support import YARDS, as_lists, check_calls, check_never, deep, grown, outcome, run_examples

EXAMPLES = '''
    >>> bent, long = ((3, 1), (3, 2), (4, 1)), ((0, 0), (1, 0))
    >>> moved(bent, 0), moved(bent, 1), moved(bent, 4), moved(bent, 6), moved(long, 1)
    (((0, 0), (0, 1), (1, 0)), ((0, 0), (1, 0), (1, 1)), ((0, 0), (1, 0), (1, 1)), ((0, 0), (0, 1), (1, 1)), ((0, 0), (0, 1)))
    >>> cell_moved(bent, (6, 2), 0), cell_moved(bent, (9, 3), 1), cell_moved(bent, (7, 2), 1), cell_moved(long, [0, 0], 4)
    ((0, 0), (3, 3), (4, 1), (4, 0))
    >>> move_back(1), [move_back(own) for own in (0, 2, 5, 7)], moves_put(1, 4), moves_put(4, 1), moves_put(3, 3)
    (3, [0, 2, 5, 7], 7, 5, 2)
    >>> moves_of(bent), moves_of(long), moves_of(((0, 0),)), seen_alike(bent, ((0, 0), (1, 0), (1, 1))), seen_alike(bent, long), least_seen(bent)
    ((0, 7), (0, 2, 4, 6), (0, 1, 2, 3, 4, 5, 6, 7), True, False, ((0, 0), (0, 1), (1, 0)))
    >>> one, ring = ((5, 5),), (((10, 10), (11, 10)), ((10, 12), (10, 11)), ((12, 10), (12, 11)), ((12, 12), (11, 12)))
    >>> floor_moved(one, ring, 0)[:2], floor_moved(one, ring, 1) == floor_moved(one, ring, 0), floor_moved(one, ring, 4) == floor_moved(one, ring, 0)
    ((((0, 0), (1, 0)), ((0, 2), (0, 1))), True, False)
    >>> back = (((10, 10), (10, 11)), ((10, 12), (11, 12)), ((12, 10), (11, 10)), ((12, 12), (12, 11)))
    >>> floors_alike(one, ring, back), floors_alike(one, ring, ring), moves_put(2, move_back(2))
    (True, True, 0)
    >>> cell_moved(long, (5, 0), 2)
    raises NoCell(cell=(5, 0))
    >>> moved(long, 8)
    raises Unfit()
'''
# A YARD that no MOVE but 0 makes what it is.
HOOK = ((0, 0), (0, 1), (0, 2), (1, 2), (2, 2), (2, 3))
NO_MOVES = (8, -1, 10 ** 6, True, False, None, "1", 1.0, (1,), [], deep(40))
RING = (((0, 0), (1, 0)), ((0, 2), (0, 1)), ((2, 0), (2, 1)), ((2, 2), (1, 2)))


def picture(yard):
    """Rows of signs, the northern one first."""
    left, low = min(x for x, y in yard), min(y for x, y in yard)
    right, top = max(x for x, y in yard), max(y for x, y in yard)
    return ["".join(".#"[(x, y) in yard] for x in range(left, right + 1)) for y in range(top, low - 1, -1)]


def yard_seen(rows):
    """The YARD, pushed, of rows of signs."""
    found = [(x, y) for y, row in enumerate(reversed(rows)) for x, sign in enumerate(row) if sign == "#"]
    return tuple(sorted(found))


def picture_moved(rows, number):
    """Rows of signs mirrored east for west from 4 on, then turned to the left by quarters."""
    if number >= 4:
        rows = [row[::-1] for row in rows]
    for _ in range(number % 4):
        # The eastmost column becomes the northernmost row.
        rows = ["".join(column) for column in list(zip(*rows))[::-1]]
    return rows


class MirroredTest(unittest.TestCase):
    def test_examples(self):
        run_examples(self, EXAMPLES, vars(mirrored))

    def test_moved_by_pictures(self):
        for yard in YARDS + (HOOK, grown(40, 1)):
            for number in range(8):
                wanted = yard_seen(picture_moved(picture(yard), number))
                self.assertEqual(moved(yard, number), wanted)
                self.assertTrue(is_yard(wanted))
                self.assertEqual(sizes(wanted), sizes(yard))

    def test_the_east_comes_to_the_north(self):
        self.assertEqual(moved(((0, 0), (1, 0), (2, 0), (2, 1)), 1), ((0, 2), (1, 0), (1, 1), (1, 2)))
        self.assertEqual(moved(((0, 0), (1, 0), (2, 0), (2, 1)), 4), ((0, 0), (0, 1), (1, 0), (2, 0)))
        self.assertEqual(moved(((0, 0), (1, 0), (2, 0), (2, 1)), 5), ((0, 0), (1, 0), (1, 1), (1, 2)))

    def test_cells(self):
        for yard in SMALL + (ARCH, HOOK):
            for number in range(8):
                other = moved(yard, number)
                own = [cell_moved(yard, cell, number) for cell in cells(yard)]
                self.assertEqual(tuple(sorted(own)), cells(other))
                for cell, goal in zip(cells(yard), own):
                    self.assertEqual(kind_of(other, goal), kind_of(yard, cell))
                    self.assertEqual(cell_moved(other, goal, move_back(number)), cell_moved(yard, cell, 0))

    def test_two_moves(self):
        for number in range(8):
            self.assertEqual(moves_put(number, move_back(number)), 0)
            self.assertEqual(moves_put(move_back(number), number), 0)
            self.assertEqual(moves_put(number, 0), number)
            self.assertEqual(moves_put(0, number), number)
            for many in range(8):
                both = moves_put(number, many)
                self.assertIn(both, range(8))
                for yard in (HOOK, FAR, BEND, ARCH):
                    first = moved(yard, number)
                    self.assertEqual(moved(first, many), moved(yard, both))
                    for cell in cells(yard)[::5]:
                        goal = cell_moved(first, cell_moved(yard, cell, number), many)
                        self.assertEqual(goal, cell_moved(yard, cell, both))
                floor = some_floor(HOOK, (2, 2))
                first = floor_moved(HOOK, floor, number)
                wanted = floor_moved(HOOK, floor, both)
                self.assertEqual(floor_moved(moved(HOOK, number), first, many), wanted)

    def test_floors(self):
        for yard in (ONE, TWO, BEND, FAR, STAIRS, ARCH):
            for number in range(8):
                other = moved(yard, number)
                for hole in cells(yard)[::3]:
                    if kind_of(yard, hole) == "rail":
                        continue
                    floor = some_floor(yard, hole)
                    goal = floor_moved(yard, floor, number)
                    self.assertTrue(is_floor(other, goal))
                    self.assertEqual(hole_of(other, goal), cell_moved(yard, hole, number))
                    back = floor_moved(other, goal, move_back(number))
                    self.assertEqual(back, floor_moved(yard, floor, 0))

    def test_all_floors_moved(self):
        for yard in (ONE, TWO, BEND, FAR, BOX):
            for hole in (cells(yard)[0], cells(yard)[len(cells(yard)) // 2]):
                if kind_of(yard, hole) == "rail":
                    hole = cells(yard)[-1]
                told = all_floors(yard, hole)
                for number in range(8):
                    goals = sorted(floor_moved(yard, floor, number) for floor in told)
                    self.assertEqual(goals, all_floors(moved(yard, number), cell_moved(yard, hole, number)))

    def test_moves_of(self):
        wanted = (
            (ONE, tuple(range(8))), (TWO, (0, 2, 4, 6)), (((0, 0), (0, 1)), (0, 2, 4, 6)), (BEND, (0, 7)),
            (FAR, (0, 7)), (BOX, tuple(range(8))), (CROSS, tuple(range(8))), (COMB, (0, 4)), (HOOK, (0,)),
            (ARCH, (0, 6)), (BLOCK40, (0, 2, 4, 6)), (((0, 0), (1, 0), (1, 1), (2, 1)), (0, 2)), (STAIRS, (0, 5)),
        )
        for yard, own in wanted:
            self.assertEqual(moves_of(yard), own, yard)
        for yard in YARDS:
            own = tuple(number for number in range(8) if moved(yard, number) == moved(yard, 0))
            self.assertEqual(moves_of(yard), own)

    def test_seen_alike(self):
        yards = SMALL + (ARCH, HOOK, COMB)
        for yard in yards:
            seen = [moved(yard, number) for number in range(8)]
            self.assertEqual(least_seen(yard), min(seen))
            for other in yards + tuple(seen):
                alike = moved(other, 0) in seen
                self.assertIs(seen_alike(yard, other), alike)
                self.assertIs(seen_alike(other, yard), alike)
                self.assertEqual(least_seen(yard) == least_seen(other), alike)

    def test_floors_alike(self):
        for yard in (ONE, TWO, FAR):
            holes = [cell for cell in cells(yard) if kind_of(yard, cell) != "rail"]
            told = [floor for hole in holes for floor in all_floors(yard, hole)[:5]]
            for floor in told:
                goals = [floor_moved(yard, floor, number) for number in moves_of(yard)]
                for other in told:
                    self.assertIs(floors_alike(yard, floor, other), floor_moved(yard, other, 0) in goals)
        floor = some_floor(HOOK, (0, 0))
        for other in (some_floor(HOOK, (0, 2)), some_floor(HOOK, (1, 1))):
            self.assertIs(floors_alike(HOOK, floor, other), False)
        self.assertIs(floors_alike(HOOK, floor, floor), True)

    def test_no_cell(self):
        for cell in ((5, 0), (-1, 0), (3, 3), (0, 3)):
            for number in range(8):
                self.assertEqual(outcome(cell_moved, (TWO, list(cell), number)), f"raises NoCell(cell={cell})")
        self.assertRaises(NoCell, cell_moved, FAR, (0, 0), 0)

    def test_unfit(self):
        floor = some_floor(TWO, (0, 0))
        no_floors = (floor[1:], floor[::-1], floor + floor[-1:], RING, ())
        for bad in NO_MOVES + NEVER:
            self.assertRaises(Unfit, moved, TWO, bad)
            self.assertRaises(Unfit, cell_moved, TWO, (0, 0), bad)
            self.assertRaises(Unfit, cell_moved, TWO, (55, 55), bad)
            self.assertRaises(Unfit, floor_moved, TWO, floor, bad)
            self.assertRaises(Unfit, move_back, bad)
            self.assertRaises(Unfit, moves_put, bad, 0)
            self.assertRaises(Unfit, moves_put, 0, bad)
        for function, args in (
            (moved, (ONE, 0)), (cell_moved, (ONE, (55, 55), 0)), (floor_moved, (ONE, RING, 0)), (moves_of, (ONE,)),
            (seen_alike, (ONE, ONE)), (least_seen, (ONE,)), (floors_alike, (ONE, RING, RING)),
        ):
            check_never(self, function, args, 0, Unfit, BAD_YARDS)
        check_never(self, seen_alike, (ONE, ONE), 1, Unfit, BAD_YARDS)
        check_never(self, cell_moved, (ONE, (0, 0), 0), 1, Unfit, ((),))
        check_never(self, floor_moved, (TWO, floor, 0), 1, Unfit, no_floors)
        check_never(self, floors_alike, (TWO, floor, floor), 1, Unfit, no_floors)
        check_never(self, floors_alike, (TWO, floor, floor), 2, Unfit, no_floors)

    def test_forms(self):
        for yard in (ONE, BEND, FAR, ARCH):
            floor = some_floor(yard, cells(yard)[0])
            other = some_floor(yard, cells(yard)[-1])
            for number in (0, 1, 6, 8):
                check_calls(self, moved, ("yard", "number"), (yard, number))
                check_calls(self, floor_moved, ("yard", "floor", "number"), (yard, floor, number))
                for cell in cells(yard)[::4] + rails(yard)[:1] + ((99, 99),):
                    check_calls(self, cell_moved, ("yard", "cell", "number"), (yard, cell, number))
                check_calls(self, move_back, ("number",), (number,))
                check_calls(self, moves_put, ("number", "many"), (number, 5))
            check_calls(self, moves_of, ("yard",), (yard,))
            check_calls(self, least_seen, ("yard",), (yard,))
            check_calls(self, seen_alike, ("yard", "other"), (yard, as_lists(BEND)))
            check_calls(self, floors_alike, ("yard", "floor", "other"), (yard, floor, other))


if __name__ == "__main__":
    unittest.main()
