import random
import unittest

from holefloors import fewest as module
from holefloors.arrows import tree
from holefloors.errors import CanNot, NoPlace, Unfit
from holefloors.fewest import between, farthest, fewest, is_plan_to, plan_to, ways, widest
from holefloors.slides import behind, slides
from tests.support import ARCH, BAD_YARDS, BEND, BLOCK40, BOX, COMB, CROSS, FAR, NEVER, NINE, OBLONG, ONE, ROW40
from tests.support import SNAKE40, STAIRS, TWO, all_places, as_lists, cells_by_squares, check_calls, check_never
from tests.support import every_floor, grown, hole_by_words, holes_by_search, nested, no_floors, outcome
from tests.support import run_examples, sample_floors, search

EXAMPLES = '''
    >>> one, start = ((0, 0),), (((0, 2), (0, 1)), ((1, 1), (1, 0)), ((2, 0), (2, 1)), ((2, 2), (1, 2)))
    >>> [fewest(one, start, own) for own in ((0, 0), (0, 2), (2, 2), (2, 0))], ways(one, start)
    ([0, 1, 2, 3], (((0, 0), 0), ((0, 2), 1), ((2, 0), 3), ((2, 2), 2)))
    >>> plan_to(one, start, (2, 0)), plan_to(one, start, (0, 0)), farthest(one, start), widest(one, start)
    (((0, 2), (2, 2), (2, 0)), (), (3, ((2, 0),)), 3)
    >>> between(one, start, (0, 2), (2, 0)), between(one, start, (2, 2), (2, 2)), between(one, start, (2, 0), (0, 0))
    (2, 0, 3)
    >>> there = ((0, 2), (0, 0), (0, 2), (2, 2))
    >>> [is_plan_to(one, start, (2, 2), own) for own in (((0, 2), (2, 2)), there, ((2, 2),), (), [(0, 2), (2, 2)])], is_plan_to(one, start, (0, 0), ())
    ([True, True, False, False, False], True)
    >>> shut = (((0, 0), (0, 1)), ((0, 2), (1, 2)), ((2, 0), (1, 0)), ((2, 2), (2, 1)))
    >>> ways(one, shut), farthest(one, shut), widest(one, shut)
    ((((1, 1), 0),), (0, ((1, 1),)), 0)
    >>> fewest(one, start, (1, 1))
    raises CanNot()
    >>> fewest(one, start, (1, 0))
    raises NoPlace(place=(1, 0))
    >>> between(one, start, (0, 2), (4, 0))
    raises NoPlace(place=(4, 0))
'''
START = (((0, 2), (0, 1)), ((1, 1), (1, 0)), ((2, 0), (2, 1)), ((2, 2), (1, 2)))
BY_FLOOR = (ways, farthest, widest)
GREAT = (ROW40, BLOCK40, SNAKE40, grown(40, 51))


def samples():
    """Pairs (yard, floor): all FLOORS of one SQUARE, some of greater YARDS."""
    found = [(ONE, floor) for floor in every_floor(ONE)]
    for at, yard in enumerate((TWO, BEND, FAR, BOX, STAIRS, CROSS, ARCH, OBLONG, COMB)):
        found += [(yard, floor) for floor in sample_floors(yard, 200 + at)]
    found += [(NINE, floor) for floor in sample_floors(NINE, 77, 3)]
    return found + [(BOX, nested(2)), (NINE, nested(3))]


class FewestTest(unittest.TestCase):
    def test_examples(self):
        run_examples(self, EXAMPLES, vars(module))

    def test_beside_a_plain_search(self):
        for yard, floor in samples():
            plans = holes_by_search(yard, floor)
            self.assertEqual(ways(yard, floor), tuple(sorted((place, len(plan)) for place, plan in plans.items())))
            most = max(len(plan) for plan in plans.values())
            ends = tuple(sorted(place for place, plan in plans.items() if len(plan) == most))
            self.assertEqual(farthest(yard, floor), (most, ends))
            for place, plan in plans.items():
                self.assertEqual(fewest(yard, floor, place), len(plan))
                self.assertEqual(plan_to(yard, floor, place), plan)
                self.assertIs(is_plan_to(yard, floor, place, plan), True)
            for place in all_places(yard):
                if place not in plans:
                    for function, args in ((fewest, ()), (plan_to, ()), (is_plan_to, ((),))):
                        self.assertRaises(CanNot, function, yard, floor, place, *args)

    def test_between_beside_a_plain_search(self):
        for yard, floor in samples()[::2]:
            greatest = 0
            for own, _ in search(yard, floor):
                place = hole_by_words(yard, own)
                for other, plan in holes_by_search(yard, own).items():
                    self.assertEqual(between(yard, floor, place, other), len(plan))
                    greatest = max(greatest, len(plan))
            self.assertEqual(widest(yard, floor), greatest)
            for own, _ in search(yard, floor)[:4]:
                self.assertEqual(widest(yard, own), greatest)

    def test_a_distance(self):
        chance = random.Random(13)
        for yard, floor in samples()[::3] + [(yard, sample_floors(yard, 5)[0]) for yard in GREAT]:
            own = tree(yard, floor)
            hole = hole_by_words(yard, floor)
            for _ in range(5):
                first, second, third = (chance.choice(own) for _ in range(3))
                straight = between(yard, floor, first, second)
                self.assertEqual(straight, between(yard, floor, second, first))
                by_third = between(yard, floor, first, third) + between(yard, floor, third, second)
                self.assertLessEqual(straight, by_third)
                self.assertEqual((by_third - straight) % 2, 0)
                self.assertEqual(between(yard, floor, hole, first), fewest(yard, floor, first))
                self.assertEqual(between(yard, floor, first, first), 0)
                there = behind(yard, floor, plan_to(yard, floor, first))
                self.assertEqual(fewest(yard, there, second), straight)

    def test_just_one_shortest_plan(self):
        for yard, floor in ((ONE, START), (BEND, sample_floors(BEND, 3)[0]), (BOX, sample_floors(BOX, 3)[3])):
            reached = {}
            front = [((), floor)]
            for _ in range(5):
                after = []
                for plan, own in front:
                    reached.setdefault(hole_by_words(yard, own), []).append(plan)
                    after += [(plan + (place,), behind(yard, own, (place,))) for place in slides(yard, own)]
                front = after
            for place, plans in reached.items():
                low = fewest(yard, floor, place)
                self.assertEqual([plan for plan in plans if len(plan) == low], [plan_to(yard, floor, place)])
                for plan in plans:
                    self.assertIs(is_plan_to(yard, floor, place, plan), True)
                    self.assertEqual((len(plan) - low) % 2, 0)
                    self.assertGreaterEqual(len(plan), low)
                    for other in tree(yard, floor):
                        self.assertIs(is_plan_to(yard, floor, other, plan), other == place)
                told = plan_to(yard, floor, place)
                self.assertEqual(len(set(told)), len(told))
                self.assertNotIn(hole_by_words(yard, floor), told)

    def test_yards_of_forty(self):
        for yard in GREAT:
            for floor in sample_floors(yard, 6, 23):
                plans = holes_by_search(yard, floor)
                self.assertEqual(dict(ways(yard, floor)), {place: len(plan) for place, plan in plans.items()})
                for place, plan in list(plans.items())[::7]:
                    self.assertEqual(plan_to(yard, floor, place), plan)
                    self.assertIs(is_plan_to(yard, floor, place, plan), True)
                most, ends = farthest(yard, floor)
                far = behind(yard, floor, plan_to(yard, floor, ends[0]))
                wide = max(len(plan) for plan in holes_by_search(yard, far).values())
                self.assertEqual(widest(yard, floor), wide)
                self.assertLessEqual(most, wide)

    def test_no_slide_leads_away(self):
        for yard, floor in ((ONE, nested(1)), (BOX, nested(2)), (NINE, nested(3))):
            hole = hole_by_words(yard, floor)
            self.assertEqual(ways(yard, floor), ((hole, 0),))
            self.assertEqual((farthest(yard, floor), widest(yard, floor)), ((0, (hole,)), 0))
            self.assertEqual((fewest(yard, floor, hole), plan_to(yard, floor, hole)), (0, ()))
            self.assertEqual(between(yard, floor, hole, hole), 0)
            self.assertIs(is_plan_to(yard, floor, hole, ()), True)
            for place in all_places(yard):
                if place != hole:
                    self.assertRaises(CanNot, fewest, yard, floor, place)
                    self.assertRaises(CanNot, between, yard, floor, hole, place)
                    self.assertRaises(CanNot, between, yard, floor, place, hole)

    def test_things(self):
        there = ((0, 2), (2, 2))
        for thing in NEVER + (list(there), as_lists(there), ((0, 2), [2, 2]), ((0, 2), (2, True)), (0, 2), []):
            self.assertIs(is_plan_to(ONE, START, (2, 2), thing), False, thing)
        for thing in (((2, 2),), ((0, 2),), (), ((0, 2), (1, 2), (2, 2)), there + ((2, 2),), there + ((2, 0),)):
            self.assertIs(is_plan_to(ONE, START, (2, 2), thing), False, thing)
        self.assertIs(is_plan_to(ONE, START, (0, 0), there), False)
        self.assertIs(is_plan_to(ONE, START, (2, 2), ((0, 2), (0, 0)) * 50000 + there), True)
        self.assertIs(is_plan_to(ONE, START, (2, 2), ((0, 2), (0, 0)) * 50000), False)
        self.assertIs(is_plan_to(ONE, START, (0, 0), []), False)
        # Errors stated for the other arguments are raised whatever the thing is.
        for thing in NEVER + ((), there):
            self.assertRaises(CanNot, is_plan_to, ONE, START, (1, 1), thing)
            self.assertRaises(NoPlace, is_plan_to, ONE, START, (1, 0), thing)
            self.assertRaises(Unfit, is_plan_to, ONE, START, (1,), thing)
            self.assertRaises(Unfit, is_plan_to, ONE, START[1:], (2, 2), thing)

    def test_order_of_errors(self):
        for place in sorted(cells_by_squares(ONE)[1]) + [(3, 3), (-1, 0), (-2, -2), (0, 99), (10 ** 6, 0)]:
            wanted = f"raises NoPlace(place={place})"
            self.assertEqual(outcome(fewest, (ONE, START, list(place))), wanted)
            self.assertEqual(outcome(plan_to, (ONE, START, list(place))), wanted)
            self.assertEqual(outcome(is_plan_to, (ONE, START, list(place), ())), wanted)
            for own in ((0, 0), (1, 1)):
                self.assertEqual(outcome(between, (ONE, START, list(place), own)), wanted)
                self.assertEqual(outcome(between, (ONE, START, own, list(place))), wanted)
            self.assertEqual(outcome(between, (ONE, START, place, (7, 7))), wanted)
            self.assertRaises(Unfit, between, ONE, START, place, (7, True))
        self.assertRaises(CanNot, between, ONE, START, (1, 1), (0, 0))
        self.assertRaises(CanNot, between, ONE, START, (0, 0), (1, 1))
        self.assertRaises(CanNot, between, ONE, START, (1, 1), (1, 1))
        self.assertRaises(Unfit, between, ONE, START, (1, 0), None)
        self.assertRaises(Unfit, between, ONE, START, (1, 1), "(0, 0)")

    def test_unfit(self):
        bent = no_floors(ONE, START) + ((), ONE, sample_floors(TWO)[0])
        for function in BY_FLOOR:
            check_never(self, function, (ONE, START), 0, Unfit, BAD_YARDS)
            check_never(self, function, (ONE, START), 1, Unfit, bent)
        for place in ((0, 2), (1, 1), (1, 0)):
            for function, more in ((fewest, ()), (plan_to, ()), (is_plan_to, (None,)), (between, ((7, 7),))):
                args = (ONE, START, place) + more
                check_never(self, function, args, 0, Unfit, BAD_YARDS)
                check_never(self, function, args, 1, Unfit, bent)
                check_never(self, function, args, 2, Unfit, ((), START[0]))
            check_never(self, between, (ONE, START, place, (0, 0)), 3, Unfit, ((), START[0]))

    def test_forms(self):
        for yard in (ONE, TWO, BEND, FAR):
            for floor in sample_floors(yard, 15, 3):
                for function in BY_FLOOR:
                    check_calls(self, function, ("yard", "floor"), (yard, floor))
                places = all_places(yard) + [(1, 0)]
                for place in places:
                    for function in (fewest, plan_to):
                        check_calls(self, function, ("yard", "floor", "place"), (yard, floor, place))
                    for other in places[::3]:
                        names = ("yard", "floor", "place", "other")
                        check_calls(self, between, names, (yard, floor, place, other))
        told = is_plan_to(thing=((0, 2),), place=[0, 2], floor=as_lists(START), yard=as_lists(ONE))
        self.assertIs(told, True)


if __name__ == "__main__":
    unittest.main()
