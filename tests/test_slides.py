import random
import unittest

from holefloors import slides as module
from holefloors.arrows import arrows, tree
from holefloors.errors import Broken, CanNot, NoPlace, Unfit
from holefloors.floors import is_floor
from holefloors.slides import behind, contrary, holes_along, is_plan, moved_by, shortened, slid, slides
from tests.support import ARCH, BAD_YARDS, BEND, BLOCK40, BOX, COMB, CROSS, FAR, NEVER, NINE, OBLONG, ONE, ROW40
from tests.support import SNAKE40, STAIRS, TWO, all_places, as_lists, cells_by_squares, check_calls, check_never
from tests.support import every_floor, grown, hole_by_words, holes_by_search, nested, no_floors, outcome
from tests.support import run_examples, sample_floors, search, slides_by_words

EXAMPLES = '''
    >>> one, two = ((0, 0),), ((0, 0), (1, 0))
    >>> flat = (((0, 2), (0, 1)), ((1, 1), (2, 1)), ((2, 0), (1, 0)), ((2, 2), (1, 2)))
    >>> turning = (((0, 0), (1, 0)), ((0, 2), (0, 1)), ((2, 0), (2, 1)), ((2, 2), (1, 2)))
    >>> shut = (((0, 0), (1, 0)), ((0, 2), (0, 1)), ((2, 0), (3, 0)), ((2, 2), (1, 2)), ((3, 1), (2, 1)), ((4, 0), (4, 1)), ((4, 2), (3, 2)))
    >>> slides(one, flat), slid(one, flat, (0, 2)), slides(one, turning), slides(two, shut)
    (((0, 2), (2, 0)), (((0, 0), (0, 1)), ((1, 1), (2, 1)), ((2, 0), (1, 0)), ((2, 2), (1, 2))), (), ((3, 1),))
    >>> behind(one, flat, ((0, 2), (2, 2))), holes_along(one, flat, ((0, 2), (2, 2))), holes_along(one, flat, ())
    ((((0, 0), (0, 1)), ((0, 2), (1, 2)), ((1, 1), (2, 1)), ((2, 0), (1, 0))), ((0, 0), (0, 2), (2, 2)), ((0, 0),))
    >>> contrary(one, flat, ((0, 2), (2, 2))), behind(one, behind(one, flat, ((0, 2), (2, 2))), ((0, 2), (0, 0))) == flat, contrary(one, flat, ())
    (((0, 2), (0, 0)), True, ())
    >>> is_plan(one, flat, ((0, 2), (2, 2), (0, 2))), is_plan(one, flat, ((2, 2),)), is_plan(one, flat, ()), is_plan(one, flat, ((0, 2), (0, 2))), is_plan(one, flat, [(0, 2)])
    (True, False, True, False, False)
    >>> moved_by(one, flat, ((2, 0), (0, 0), (0, 2))), shortened(one, flat, ((2, 0), (0, 0), (0, 2))), shortened(one, flat, ((2, 0), (0, 0)))
    ((((0, 2), (0, 1)),), ((0, 2),), ())
    >>> slid(two, shut, (3, 1)), behind(two, shut, ((3, 1), (1, 1))) == shut
    ((((0, 0), (1, 0)), ((0, 2), (0, 1)), ((1, 1), (2, 1)), ((2, 0), (3, 0)), ((2, 2), (1, 2)), ((4, 0), (4, 1)), ((4, 2), (3, 2))), True)
    >>> slid(one, flat, (2, 2))
    raises CanNot()
    >>> behind(one, flat, ((0, 2), (2, 0)))
    raises Broken(number=1)
    >>> behind(one, flat, ((0, 2), (1, 0)))
    raises Unfit()
'''
FLAT = (((0, 2), (0, 1)), ((1, 1), (2, 1)), ((2, 0), (1, 0)), ((2, 2), (1, 2)))
BY_PLAN = (behind, holes_along, contrary, moved_by, shortened)
GREAT = (ROW40, BLOCK40, SNAKE40, grown(40, 41))


def samples():
    """Pairs (yard, floor): all FLOORS of one SQUARE, some of greater YARDS."""
    found = [(ONE, floor) for floor in every_floor(ONE)]
    for at, yard in enumerate((TWO, BEND, FAR, BOX, STAIRS, CROSS, ARCH, OBLONG, COMB, NINE)):
        found += [(yard, floor) for floor in sample_floors(yard, 100 + at)]
    return found + [(BOX, nested(2)), (NINE, nested(3))]


def walk(yard, floor, many, chance):
    """A PLAN by chance of so many SLIDES, or () if none leads on, and the FLOORS along it."""
    plan, along = (), [floor]
    while len(plan) < many:
        found = slides_by_words(yard, along[-1])
        if not found:
            break
        place, after = chance.choice(found)
        plan += (place,)
        along.append(after)
    return plan, along


class SlidesTest(unittest.TestCase):
    def test_examples(self):
        run_examples(self, EXAMPLES, vars(module))

    def test_one_slide(self):
        for yard, floor in samples():
            wanted = dict(slides_by_words(yard, floor))
            self.assertEqual(slides(yard, floor), tuple(sorted(wanted)))
            hole = hole_by_words(yard, floor)
            self.assertEqual(list(slides(yard, floor)), [place for place, goal in arrows(yard, floor) if goal == hole])
            for place in all_places(yard):
                if place not in wanted:
                    self.assertRaises(CanNot, slid, yard, floor, place)
                    continue
                after = slid(yard, floor, place)
                self.assertEqual(after, wanted[place])
                self.assertTrue(is_floor(yard, after))
                # Undone by a SLIDE to the HOLE ahead of it, and by nothing else.
                for back in slides(yard, after):
                    self.assertEqual(slid(yard, after, back) == floor, back == hole)
                self.assertIn(hole, slides(yard, after))

    def test_plans_by_chance(self):
        chance = random.Random(4)
        for yard, floor in samples():
            plan, along = walk(yard, floor, chance.randrange(12), chance)
            self.check_plan(yard, floor, plan, along)

    def check_plan(self, yard, floor, plan, along):
        holes = tuple(hole_by_words(yard, own) for own in along)
        end = along[-1]
        self.assertIs(is_plan(yard, floor, plan), True)
        self.assertEqual(behind(yard, floor, plan), end)
        self.assertEqual(holes_along(yard, floor, plan), holes)
        self.assertEqual(len(holes), len(plan) + 1)
        back = contrary(yard, floor, plan)
        self.assertEqual(back, holes[:-1][::-1])
        self.assertEqual(behind(yard, end, back), floor)
        for at in range(len(back) + 1):
            self.assertEqual(behind(yard, end, back[:at]), along[len(plan) - at])
        self.assertEqual(contrary(yard, end, back), plan)
        moved = moved_by(yard, floor, plan)
        self.assertEqual(moved, tuple(couple for couple in floor if couple not in end))
        self.assertTrue(all(couple[0] in holes for couple in moved))
        short = shortened(yard, floor, plan)
        self.assertEqual(behind(yard, floor, short), end)
        self.assertEqual(short, holes_by_search(yard, floor)[holes[-1]])
        self.assertEqual((len(plan) - len(short)) % 2, 0)
        self.assertEqual(shortened(yard, floor, short), short)

    def test_plans_to_one_hole_lead_to_one_floor(self):
        chance = random.Random(9)
        for yard, floor in samples()[::2]:
            ends = dict((hole_by_words(yard, own), own) for own, _ in search(yard, floor))
            for _ in range(4):
                plan, along = walk(yard, floor, chance.randrange(9), chance)
                end = behind(yard, floor, plan)
                self.assertEqual(end, ends[hole_by_words(yard, end)])

    def test_nothing_done(self):
        for yard, floor in samples()[::3]:
            self.assertIs(is_plan(yard, floor, ()), True)
            self.assertEqual(behind(yard, floor, ()), floor)
            self.assertEqual(holes_along(yard, floor, ()), (hole_by_words(yard, floor),))
            for function in (contrary, moved_by, shortened):
                self.assertEqual(function(yard, floor, ()), ())

    def test_there_and_back(self):
        for yard, floor in samples()[::3]:
            hole = hole_by_words(yard, floor)
            for place in slides(yard, floor):
                plan = (place, hole)
                self.assertEqual(behind(yard, floor, plan), floor)
                self.assertEqual(moved_by(yard, floor, plan), ())
                self.assertEqual(shortened(yard, floor, plan), ())
                self.assertEqual(contrary(yard, floor, plan), plan)

    def test_no_slide_leads_away(self):
        for yard, floor in ((ONE, nested(1)), (ONE, nested(1, (1,))), (BOX, nested(2)), (NINE, nested(3, (2,)))):
            self.assertEqual(slides(yard, floor), ())
            for place in all_places(yard):
                self.assertRaises(CanNot, slid, yard, floor, place)
                self.assertIs(is_plan(yard, floor, (place,)), False)
                for function in BY_PLAN:
                    self.assertEqual(outcome(function, (yard, floor, (place,))), "raises Broken(number=0)")

    def test_plans_of_five_hundred(self):
        chance = random.Random(6)
        for yard in GREAT + (ONE, NINE):
            for floor in sample_floors(yard, 7, 29):
                plan, along = walk(yard, floor, 500, chance)
                if len(plan) < 500:
                    continue
                self.assertEqual(behind(yard, floor, plan), along[-1])
                self.assertEqual(holes_along(yard, floor, plan), (hole_by_words(yard, floor),) + plan)
                self.assertEqual(behind(yard, along[-1], contrary(yard, floor, plan)), floor)
                self.assertEqual(moved_by(yard, floor, plan), tuple(own for own in floor if own not in along[-1]))
                short = shortened(yard, floor, plan)
                self.assertEqual(behind(yard, floor, short), along[-1])
                self.assertLess(len(short), len(tree(yard, floor)))
                self.assertIs(is_plan(yard, floor, plan), True)
                self.assertIs(is_plan(yard, floor, plan + plan[-1:]), False)
                self.assertEqual(outcome(behind, (yard, floor, plan + plan[-1:])), "raises Broken(number=500)")
        there = ((0, 2), (0, 0)) * 60000
        self.assertIs(is_plan(ONE, FLAT, there), True)
        self.assertIs(is_plan(ONE, FLAT, there + ((2, 2),)), False)

    def test_broken(self):
        chance = random.Random(11)
        for yard, floor in samples()[::2]:
            plan, along = walk(yard, floor, 6, chance)
            for at, own in enumerate(along):
                good = dict(slides_by_words(yard, own))
                for place in all_places(yard):
                    if place not in good:
                        told = plan[:at] + (place,) + plan[at:]
                        self.assertIs(is_plan(yard, floor, told), False)
                        function = BY_PLAN[(at + place[0]) % len(BY_PLAN)]
                        self.assertEqual(outcome(function, (yard, floor, told)), f"raises Broken(number={at})")
        for function in BY_PLAN:
            for told, number in ((((0, 2), (2, 0)), 1), (((2, 2),), 0), (((0, 0),), 0), (((0, 2), (0, 2)), 1)):
                self.assertEqual(outcome(function, (ONE, FLAT, told)), f"raises Broken(number={number})")
            # All of the PLAN is looked at ahead: a CELL that is no PLACE is told, though it breaks earlier.
            self.assertRaises(Unfit, function, ONE, FLAT, ((2, 2), (1, 0)))
            self.assertRaises(Broken, function, ONE, FLAT, ((2, 2), (1, 1)))

    def test_things(self):
        for thing in NEVER + (((0, 2), [2, 2]), [(0, 2)], as_lists(((0, 2), (2, 2))), (((0, 2),),), (0, 2)):
            self.assertIs(is_plan(ONE, FLAT, thing), False, thing)
        for thing in (((0, 1),), ((0, 2), (1, 2)), ((0, 2), (0, 0, 0)), ((9, 9),), ((False, 2),), ((0, 2.0),), []):
            self.assertIs(is_plan(ONE, FLAT, thing), False, thing)
        nearly = ((0, 2), (2, 2), (0, 2), (0, 0), (2, 0))
        self.assertIs(is_plan(ONE, FLAT, nearly), True)
        self.assertIs(is_plan(ONE, FLAT, nearly[:3] + ((False, 0),) + nearly[4:]), False)
        self.assertIs(is_plan(TWO, sample_floors(TWO)[0], ((2, True),)), False)
        up = (((0, 0), (0, 1)), ((1, 1), (1, 0)), ((2, 0), (2, 1)), ((2, 2), (1, 2)))
        self.assertEqual([is_plan(ONE, up, (own,)) for own in ((0, 0), (False, 0), (0, False))], [True, False, False])

    def test_no_place(self):
        outside = sorted(cells_by_squares(ONE)[1]) + [(3, 3), (-1, 0), (-2, -2), (0, 99), (10 ** 6, 0)]
        for place in outside:
            self.assertEqual(outcome(slid, (ONE, FLAT, list(place))), f"raises NoPlace(place={place})")
            for function in BY_PLAN:
                self.assertRaises(Unfit, function, ONE, FLAT, (place,))

    def test_unfit(self):
        bent = no_floors(ONE, FLAT) + ((), ONE, sample_floors(TWO)[0])
        check_never(self, slides, (ONE, FLAT), 0, Unfit, BAD_YARDS)
        check_never(self, slides, (ONE, FLAT), 1, Unfit, bent)
        check_never(self, is_plan, (ONE, FLAT, None), 0, Unfit, BAD_YARDS)
        check_never(self, is_plan, (ONE, FLAT, None), 1, Unfit, bent)
        for place in ((0, 2), (2, 2), (1, 0)):
            check_never(self, slid, (ONE, FLAT, place), 0, Unfit, BAD_YARDS)
            check_never(self, slid, (ONE, FLAT, place), 1, Unfit, bent)
        check_never(self, slid, (ONE, FLAT, (0, 2)), 2, Unfit, ((), FLAT[0]))
        self.assertRaises(NoPlace, slid, ONE, FLAT, (1, 0))
        no_plans = ((0, 2), (((0, 2),),), ((0, 2), None), ((0, 2), (0, 1)), ((0, 2), (0, 2, 0)), FLAT, ((9, 9),))
        for function in BY_PLAN:
            for plan in (((0, 2),), ((2, 2),)):
                check_never(self, function, (ONE, FLAT, plan), 0, Unfit, BAD_YARDS)
                check_never(self, function, (ONE, FLAT, plan), 1, Unfit, bent)
            check_never(self, function, (ONE, FLAT, ()), 2, Unfit, no_plans)

    def test_forms(self):
        chance = random.Random(2)
        for yard in (ONE, TWO, BEND, FAR):
            for floor in sample_floors(yard, 12, 2):
                check_calls(self, slides, ("yard", "floor"), (yard, floor))
                for place in all_places(yard) + [(1, 0)]:
                    check_calls(self, slid, ("yard", "floor", "place"), (yard, floor, place))
                plan = walk(yard, floor, 5, chance)[0]
                for told in ((), plan, plan + plan[-1:], plan + ((1, 0),)):
                    for function in BY_PLAN:
                        check_calls(self, function, ("yard", "floor", "plan"), (yard, floor, told))
                self.assertIs(is_plan(thing=plan, floor=as_lists(floor), yard=as_lists(yard)), True)


if __name__ == "__main__":
    unittest.main()
