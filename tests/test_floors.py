import random
import unittest

from holefloors import floors
from holefloors.cells import cells, couples, kind_of, places, rails_at
from holefloors.counts import how_many
from holefloors.errors import CanNot, NoCell, NoPlace, TooMany, Unfit
from holefloors.floors import all_floors, couple_at, couples_of, first_gap, first_overlap, hole_of, is_floor
from holefloors.floors import some_floor
from holefloors.yards import boxed, rails
from tests.support import ARCH, BAD_YARDS, BEND, BLOCK40, BOX, FAR, NEVER, ONE, SMALL, TWO, YARDS, all_places
from tests.support import as_lists, bent_floors, cells_by_squares, check_calls, check_never, floors_by_trying, grown
from tests.support import is_floor_by_words, outcome, run_examples, small_yards

EXAMPLES = '''
    >>> one, long = ((0, 0),), ((0, 0), (1, 0))
    >>> ring = (((0, 0), (1, 0)), ((0, 2), (0, 1)), ((2, 0), (2, 1)), ((2, 2), (1, 2)))
    >>> is_floor(one, ring), is_floor(one, ring[:3]), is_floor(one, ring[::-1]), is_floor(one, list(ring)), hole_of(one, ring)
    (True, False, False, False, (1, 1))
    >>> couple_at(one, ring, (2, 1)), couple_at(one, ring, [0, 0]), couples_of(one, ring, "post") == ring, couples_of(one, ring, "plot")
    (((2, 0), (2, 1)), ((0, 0), (1, 0)), True, ())
    >>> first_gap(one, ring[:1]), first_gap(one, ring), first_overlap(one, ring), first_overlap(one, ring + ring[2:3]), first_overlap(one, (((0, 0), (1, 0)), ((2, 0), (1, 0)))), first_gap(one, ())
    ((0, 1), (1, 1), None, (2, 0), (1, 0), (0, 0))
    >>> all_floors(one, (1, 1)) == [(((0, 0), (0, 1)), ((0, 2), (1, 2)), ((2, 0), (1, 0)), ((2, 2), (2, 1))), ring]
    True
    >>> all_floors(one, (0, 0))[0]
    (((0, 2), (0, 1)), ((1, 1), (1, 0)), ((2, 0), (2, 1)), ((2, 2), (1, 2)))
    >>> [len(all_floors(long, own)) for own in ((0, 0), (1, 1), (2, 2))], [len(all_floors(((0, 0), (1, 0), (2, 0)), own)) for own in ((0, 0), (1, 1), (3, 1))]
    ([15, 8, 15], [56, 30, 32])
    >>> hole_of(long, some_floor(long, (3, 1))), len(some_floor(long, (0, 2))), len(couples_of(long, some_floor(long, (4, 0)), "plot"))
    ((3, 1), 7, 2)
    >>> couple_at(one, ring, (1, 1))
    raises CanNot()
    >>> couple_at(one, ring, (3, 0))
    raises NoCell(cell=(3, 0))
    >>> all_floors(one, (1, 0))
    raises NoPlace(place=(1, 0))
    >>> all_floors(tuple([(x, y) for x in range(3) for y in range(2)]), (0, 0))
    raises TooMany()
'''
RING = (((0, 0), (1, 0)), ((0, 2), (0, 1)), ((2, 0), (2, 1)), ((2, 2), (1, 2)))
OUTSIDE = ((3, 3), (3, 1), (-1, 0), (2, 3), (10 ** 6, 0))


class FloorsTest(unittest.TestCase):
    def test_examples(self):
        run_examples(self, EXAMPLES, vars(floors))

    def test_all_floors_of_small_yards(self):
        for yard in small_yards(3) + [BOX, FAR]:
            for hole in all_places(yard):
                told = all_floors(yard, hole)
                self.assertEqual(told, list(floors_by_trying(yard, hole)))
                self.assertEqual(len(told), how_many(yard, hole))
                for floor in told[::7]:
                    self.assertIs(is_floor(yard, floor), True)
                    self.assertEqual(hole_of(yard, floor), hole)
                    self.assertEqual(len(floor), len(rails(yard)))
                self.assertIn(some_floor(yard, hole), told)

    def test_about_two_thousand(self):
        # Of all YARDS of up to eight SQUARES these numbers, 1,920 and 2,415, are the next ones to 2,000.
        six = ((0, 1), (1, 0), (1, 1), (1, 2), (1, 3), (2, 1))
        self.assertEqual(how_many(six, (3, 3)), 1920)
        told = all_floors(six, (3, 3))
        self.assertEqual(len(set(told)), 1920)
        self.assertEqual(told, list(floors_by_trying(six, (3, 3))))
        self.assertEqual(how_many(boxed(3, 2), (0, 0)), 2415)
        self.assertRaises(TooMany, all_floors, boxed(3, 2), (0, 0))
        for yard in (BLOCK40, ARCH, grown(40, 2)):
            for hole in (cells(yard)[0], places(yard, "plot")[-1]):
                self.assertRaises(TooMany, all_floors, yard, hole)

    def test_some_floor(self):
        for yard in YARDS + (grown(40, 5), grown(40, 6)):
            for hole in all_places(yard):
                floor = some_floor(yard, hole)
                self.assertTrue(is_floor(yard, floor))
                self.assertEqual(hole_of(yard, floor), hole)
                self.assertEqual(some_floor(as_lists(yard), list(hole)), floor)

    def test_parts_of_a_floor(self):
        for yard in SMALL + (ARCH, BLOCK40):
            for hole in all_places(yard)[::11]:
                floor = some_floor(yard, hole)
                for couple in floor:
                    for cell in couple:
                        self.assertEqual(couple_at(yard, floor, cell), couple)
                self.assertRaises(CanNot, couple_at, yard, floor, hole)
                for kind in ("post", "plot"):
                    wanted = tuple(couple for couple in floor if kind_of(yard, couple[0]) == kind)
                    self.assertEqual(couples_of(yard, floor, kind), wanted)
                    own = [place for place in places(yard, kind) if place != hole]
                    self.assertEqual([place for place, rail in wanted], own)

    def test_bent_floors(self):
        for yard in (ONE, TWO, BEND, BOX, FAR):
            for hole in all_places(yard)[::3]:
                floor = some_floor(yard, hole)
                for bent in bent_floors(yard, floor):
                    fit = None not in bent and is_floor_by_words(yard, bent)
                    self.assertIs(is_floor(yard, bent), fit, bent)
                    if not fit:
                        for args in ((hole_of,), (couple_at, (0, 0)), (couples_of, "post")):
                            self.assertRaises(Unfit, args[0], yard, bent, *args[1:])
        self.assertFalse(is_floor(TWO, RING))
        self.assertRaises(Unfit, hole_of, TWO, RING)
        self.assertRaises(Unfit, hole_of, ONE, some_floor(TWO, (0, 0)))

    def test_things(self):
        for thing in NEVER + ((), RING[0], (RING,), ((0, 0),)):
            self.assertIs(is_floor(ONE, thing), False, thing)
        self.assertIs(is_floor(ONE, RING), True)
        self.assertIs(is_floor(ONE, as_lists(RING)), False)
        for at in range(4):
            place, rail = RING[at]
            for couple in ([place, rail], (list(place), rail), (place, list(rail)), (place, rail, rail), (place,)):
                self.assertIs(is_floor(ONE, RING[:at] + (couple,) + RING[at + 1:]), False)
        self.assertIs(is_floor(ONE, (((0, False), (1, 0)),) + RING[1:]), False)
        self.assertIs(is_floor(ONE, (((0, 0), (True, 0)),) + RING[1:]), False)

    def test_gaps_and_overlaps(self):
        chance = random.Random(12)
        for yard in SMALL + (ARCH,):
            every = couples(yard)
            for _ in range(60):
                told = tuple(chance.choice(every) for _ in range(chance.randrange(2 * len(yard) + 4)))
                self.check_gap_and_overlap(yard, told)
            for hole in all_places(yard)[:3]:
                floor = some_floor(yard, hole)
                self.check_gap_and_overlap(yard, floor)
                self.check_gap_and_overlap(yard, floor[::-1])
                self.check_gap_and_overlap(yard, floor[1:])
                self.check_gap_and_overlap(yard, floor + floor[:1])
            self.assertIsNone(first_gap(yard, every))
            self.assertEqual(first_overlap(yard, every), cells(yard)[0])
            self.assertEqual(first_gap(yard, ()), cells(yard)[0])
            self.assertIsNone(first_overlap(yard, ()))
            self.assertIsNone(first_overlap(yard, every[:1]))
            self.assertEqual(first_overlap(yard, every[-1:] * 2), min(every[-1]))

    def check_gap_and_overlap(self, yard, told):
        entries = [cell for couple in told for cell in couple]
        gaps = [cell for cell in cells(yard) if cell not in entries]
        overlaps = [cell for cell in cells(yard) if entries.count(cell) > 1]
        self.assertEqual(first_gap(yard, told), gaps[0] if gaps else None)
        self.assertEqual(first_overlap(yard, told), overlaps[0] if overlaps else None)
        fits = len(told) == len(rails(yard)) and first_overlap(yard, told) is None
        self.assertEqual(is_floor(yard, tuple(sorted(told))), fits)

    def test_floors_by_their_definition(self):
        chance = random.Random(3)
        for yard in (ONE, TWO, BEND):
            for hole in all_places(yard):
                for floor in all_floors(yard, hole)[:6]:
                    at = chance.randrange(len(floor))
                    place, rail = floor[at]
                    for other in rails_at(yard, place):
                        told = tuple(sorted(floor[:at] + ((place, other),) + floor[at + 1:]))
                        self.assertEqual(is_floor(yard, told), is_floor_by_words(yard, told))

    def test_refusals(self):
        for cell in OUTSIDE:
            self.assertEqual(outcome(couple_at, (ONE, RING, list(cell))), f"raises NoCell(cell={cell})")
        for hole in OUTSIDE + rails(ONE):
            for function in (all_floors, some_floor):
                self.assertEqual(outcome(function, (ONE, list(hole))), f"raises NoPlace(place={hole})")
        for hole in rails(BLOCK40)[:4]:
            self.assertRaises(NoPlace, all_floors, BLOCK40, hole)
        self.assertRaises(NoCell, couple_at, ONE, RING, (77, 77))

    def test_unfit(self):
        no_couples = (
            (((0, 0), (0, 2)),), (((1, 0), (0, 0)),), RING[0], (RING[0], None), (((3, 1), (3, 0)),),
            (((0, 0), (0, True)),), (((0, 0), (1, 0), (1, 0)),), "ab", RING + ((),),
        )
        no_floors = (RING[:3], RING[::-1], RING + RING[3:], (), RING[:1])
        for at, function, args in (
            (1, hole_of, (ONE, RING)), (1, couple_at, (ONE, RING, (77, 77))), (1, couples_of, (ONE, RING, "plot")),
        ):
            check_never(self, function, args, 0, Unfit, BAD_YARDS)
            check_never(self, function, args, at, Unfit, no_floors + no_couples)
        check_never(self, couple_at, (ONE, RING, (0, 0)), 2, Unfit, ((), RING[0]))
        check_never(self, couples_of, (ONE, RING, "post"), 2, Unfit, ("", "Post", ["post"]))
        for function in (first_gap, first_overlap):
            check_never(self, function, (ONE, RING), 0, Unfit, BAD_YARDS)
            check_never(self, function, (ONE, RING), 1, Unfit, no_couples)
        for function in (all_floors, some_floor):
            check_never(self, function, (ONE, (1, 0)), 0, Unfit, BAD_YARDS)
            check_never(self, function, (ONE, (1, 0)), 1, Unfit, ((), RING[0]))
        check_never(self, is_floor, (ONE, RING), 0, Unfit, BAD_YARDS)

    def test_forms(self):
        for yard in (ONE, TWO, BEND, FAR):
            for hole in cells(yard):
                check_calls(self, all_floors, ("yard", "hole"), (yard, hole))
                check_calls(self, some_floor, ("yard", "hole"), (yard, hole))
            floor = some_floor(yard, all_places(yard)[0])
            check_calls(self, hole_of, ("yard", "floor"), (yard, floor))
            for cell in cells(yard) + OUTSIDE:
                check_calls(self, couple_at, ("yard", "floor", "cell"), (yard, floor, cell))
            for kind in ("post", "plot"):
                check_calls(self, couples_of, ("yard", "floor", "kind"), (yard, floor, kind))
            for own in ((), floor[::-1], floor + floor[:2]):
                check_calls(self, first_gap, ("yard", "couples"), (yard, own))
                check_calls(self, first_overlap, ("yard", "couples"), (yard, own))
            self.assertIs(is_floor(thing=floor, yard=as_lists(yard)), True)


if __name__ == "__main__":
    unittest.main()
