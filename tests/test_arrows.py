import random
import unittest

from holefloors import arrows as module
from holefloors.arrows import arrow_of, arrows, ends_in, never_moved, tree, tree_rails, way_home
from holefloors.errors import CanNot, NoPlace, Unfit
from tests.support import ARCH, BAD_YARDS, BEND, BLOCK40, BOX, COMB, CROSS, FAR, NINE, OBLONG, ONE, ROW40, SNAKE40
from tests.support import STAIRS, TWO, all_places, cells_by_squares, chance_floor, check_calls, check_never
from tests.support import every_floor, grown, hole_by_words, holes_by_search, kind_by_words, nested, no_floors
from tests.support import outcome, pointed, run_examples, sample_floors, search, slides_by_words, small_yards

EXAMPLES = '''
    >>> one, two = ((0, 0),), ((0, 0), (1, 0))
    >>> flat = (((0, 2), (0, 1)), ((1, 1), (2, 1)), ((2, 0), (1, 0)), ((2, 2), (1, 2)))
    >>> arrows(one, flat), arrow_of(one, flat, (2, 2)), arrow_of(one, flat, (1, 1)), tree(one, flat)
    ([((0, 2), (0, 0)), ((1, 1), None), ((2, 0), (0, 0)), ((2, 2), (0, 2))], (0, 2), None, ((0, 0), (0, 2), (2, 0), (2, 2)))
    >>> way_home(one, flat, (2, 2)), way_home(one, flat, (0, 0)), tree_rails(one, flat), never_moved(one, flat)
    (((2, 2), (0, 2), (0, 0)), ((0, 0),), ((0, 1), (1, 0), (1, 2)), (((1, 1), (2, 1)),))
    >>> [ends_in(one, flat, own) for own in ((0, 0), (2, 2), (1, 1))]
    ['home', 'home', 'out']
    >>> turning = (((0, 0), (1, 0)), ((0, 2), (0, 1)), ((2, 0), (2, 1)), ((2, 2), (1, 2)))
    >>> tree(one, turning), [ends_in(one, turning, own) for own in ((0, 0), (1, 1))], never_moved(one, turning) == turning, tree_rails(one, turning)
    (((1, 1),), ['ring', 'home'], True, ())
    >>> shut = (((0, 0), (1, 0)), ((0, 2), (0, 1)), ((2, 0), (3, 0)), ((2, 2), (1, 2)), ((3, 1), (2, 1)), ((4, 0), (4, 1)), ((4, 2), (3, 2)))
    >>> tree(two, shut), way_home(two, shut, (3, 1)), tree_rails(two, shut), len(never_moved(two, shut)), ends_in(two, shut, (4, 2))
    (((1, 1), (3, 1)), ((3, 1), (1, 1)), ((2, 1),), 6, 'ring')
    >>> arrow_of(one, flat, (0, 0))
    raises CanNot()
    >>> way_home(one, flat, (1, 1))
    raises CanNot()
    >>> ends_in(one, flat, (1, 0))
    raises NoPlace(place=(1, 0))
'''
FLAT = (((0, 2), (0, 1)), ((1, 1), (2, 1)), ((2, 0), (1, 0)), ((2, 2), (1, 2)))
BY_FLOOR = (arrows, tree, tree_rails, never_moved)
BY_PLACE = (arrow_of, ends_in, way_home)
GREAT = (ROW40, BLOCK40, SNAKE40, grown(40, 31))


def samples():
    """Pairs (yard, floor): all FLOORS of small YARDS, some of greater ones, HOLES at all PLACES."""
    found = [(yard, floor) for yard in (ONE, TWO) for floor in every_floor(yard)]
    for at, yard in enumerate((BEND, FAR, BOX, STAIRS, CROSS, ARCH, OBLONG, COMB, NINE)):
        found += [(yard, floor) for seed in (1, 2) for floor in sample_floors(yard, 10 * at + seed)]
    found += [(NINE, nested(3, turned)) for turned in ((), (1,), (2,), (1, 2, 3))]
    found += [(BOX, nested(2, turned)) for turned in ((), (1,), (2,))]
    return found


class ArrowsTest(unittest.TestCase):
    def test_examples(self):
        run_examples(self, EXAMPLES, vars(module))

    def test_arrows(self):
        for yard, floor in samples() + [(yard, own) for yard in GREAT for own in sample_floors(yard, 3, 17)]:
            inside = set(all_places(yard))
            wanted = [(own[0], pointed(own) if pointed(own) in inside else None) for own in floor]
            told = arrows(yard, floor)
            self.assertEqual(told, wanted)
            self.assertIs(type(told), list)
            for place, goal in told:
                self.assertEqual(arrow_of(yard, floor, place), goal)
                if goal is not None:
                    self.assertEqual(kind_by_words(place), kind_by_words(goal))
                else:
                    self.assertEqual(kind_by_words(place), "plot")
            hole = hole_by_words(yard, floor)
            self.assertEqual(len(told), len(inside) - 1)
            self.assertNotIn(hole, dict(told))
            self.assertRaises(CanNot, arrow_of, yard, floor, hole)

    def test_where_arrows_end(self):
        met = set()
        for yard, floor in samples():
            to = {own[0]: pointed(own) for own in floor}
            inside = set(all_places(yard))
            hole = hole_by_words(yard, floor)
            for start in inside:
                here, way = start, [start]
                while here in to and to[here] in inside and len(way) <= len(inside):
                    here = to[here]
                    way.append(here)
                met.add(ends_in(yard, floor, start))
                if here == hole:
                    self.assertEqual(ends_in(yard, floor, start), "home")
                    self.assertEqual(way_home(yard, floor, start), tuple(way))
                else:
                    word = "ring" if len(way) > len(inside) else "out"
                    self.assertEqual(ends_in(yard, floor, start), word)
                    self.assertRaises(CanNot, way_home, yard, floor, start)
                    self.assertTrue(word == "ring" or kind_by_words(start) == "plot")
            self.assertEqual(way_home(yard, floor, hole), (hole,))
        self.assertEqual(met, {"home", "out", "ring"})

    def test_tree_beside_a_plain_search(self):
        for yard, floor in samples():
            every = [own for own, _ in search(yard, floor)]
            holes = sorted(hole_by_words(yard, own) for own in every)
            told = tree(yard, floor)
            self.assertEqual(list(told), holes)
            self.assertEqual(len(set(holes)), len(every))
            still = tuple(couple for couple in floor if all(couple in own for own in every))
            self.assertEqual(never_moved(yard, floor), still)
            lines = tuple(sorted(rail for place, rail in floor if place in holes))
            self.assertEqual(tree_rails(yard, floor), lines)
            self.assertEqual(len(lines), len(told) - 1)
            self.assertEqual(len({kind_by_words(place) for place in told}), 1)
            homes = tuple(place for place in all_places(yard) if ends_in(yard, floor, place) == "home")
            self.assertEqual(told, homes)
            for own in every[:3]:
                self.assertEqual(tree(yard, own), told)
                self.assertEqual(tree_rails(yard, own), lines)
                self.assertEqual(never_moved(yard, own), still)
            for plan in holes_by_search(yard, floor).values():
                self.assertEqual(len(way_home(yard, floor, plan[-1])) if plan else 1, len(plan) + 1)

    def test_no_slide_leads_away(self):
        for yard, floor in ((ONE, nested(1)), (BOX, nested(2)), (NINE, nested(3))):
            self.assertEqual(slides_by_words(yard, floor), [])
            self.assertEqual(tree(yard, floor), (hole_by_words(yard, floor),))
            self.assertEqual(never_moved(yard, floor), floor)
            self.assertEqual(tree_rails(yard, floor), ())

    def test_yards_of_forty(self):
        chance = random.Random(8)
        for yard in GREAT:
            places = all_places(yard)
            for hole in places[::13] + [places[-1]]:
                floor = chance_floor(yard, hole, chance)
                holes = sorted(holes_by_search(yard, floor))
                self.assertEqual(list(tree(yard, floor)), holes)
                kept = tuple(couple for couple in floor if couple[0] not in holes)
                self.assertEqual(never_moved(yard, floor), kept)
                for place, plan in list(holes_by_search(yard, floor).items())[-3:]:
                    self.assertEqual(way_home(yard, floor, place), plan[::-1] + (hole,))
        whole = [place for place in all_places(ROW40) if kind_by_words(place) == "post"]
        self.assertEqual(list(tree(ROW40, chance_floor(ROW40, (0, 0), chance))), whole)

    def test_no_place(self):
        for yard, floor in ((ONE, FLAT), (BEND, sample_floors(BEND)[0])):
            outside = sorted(cells_by_squares(yard)[1]) + [(3, 3), (-1, 0), (-2, -2), (0, 99), (10 ** 6, 0)]
            for place in outside:
                for function in BY_PLACE:
                    told = outcome(function, (yard, floor, list(place)))
                    self.assertEqual(told, f"raises NoPlace(place={place})")

    def test_unfit(self):
        # The place is none of the YARD: what is unfit is told ahead of that.
        for function in BY_PLACE:
            for place in ((0, 0), (1, 0), (9, 9)):
                args = (ONE, FLAT, place)
                check_never(self, function, args, 0, Unfit, BAD_YARDS)
                check_never(self, function, args, 1, Unfit, no_floors(ONE, FLAT) + ((), ONE, sample_floors(TWO)[0]))
            check_never(self, function, (ONE, FLAT, (0, 0)), 2, Unfit, ((), FLAT[0], FLAT))
            self.assertRaises(NoPlace, function, ONE, FLAT, (1, 0))
        for function in BY_FLOOR:
            check_never(self, function, (ONE, FLAT), 0, Unfit, BAD_YARDS)
            check_never(self, function, (ONE, FLAT), 1, Unfit, no_floors(ONE, FLAT) + ((), ONE))
            self.assertRaises(Unfit, function, TWO, FLAT)

    def test_forms(self):
        for yard in small_yards(2) + [BEND, FAR]:
            for floor in sample_floors(yard, 5, 3):
                for function in BY_FLOOR:
                    check_calls(self, function, ("yard", "floor"), (yard, floor))
                for place in all_places(yard) + [(1, 0), (9, 9)]:
                    for function in BY_PLACE:
                        check_calls(self, function, ("yard", "floor", "place"), (yard, floor, place))


if __name__ == "__main__":
    unittest.main()
