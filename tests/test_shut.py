import random
import unittest

from holefloors import shut as module
from holefloors.counts import how_many, shut_many
from holefloors.errors import CanNot, Unfit
from holefloors.floors import is_floor
from holefloors.shut import depth, is_free, is_ring_round, is_shut, is_why_free, nearest_rim, never_reached, opened
from holefloors.shut import rim_posts, ring_round, why_free
from holefloors.slides import behind, slid, slides
from holefloors.yards import boxed
from tests.support import ARCH, BAD_YARDS, BEND, BLOCK40, BOX, COMB, CROSS, FAR, NEVER, NINE, OBLONG, ONE, ROW40
from tests.support import SNAKE40, STAIRS, TWO, YARDS, all_places, as_lists, cells_by_squares, check_calls
from tests.support import check_never, chance_floor, every_floor, grown, hole_by_words, holes_by_search, kind_by_words
from tests.support import nested, no_floors, rings_by_walk, run_examples, sample_floors, search, within_by_flood

EXAMPLES = '''
    >>> yard = ((0, 0), (0, 1), (1, 0), (1, 1))
    >>> shut = (((0, 0), (0, 1)), ((0, 2), (0, 3)), ((0, 4), (1, 4)), ((1, 1), (1, 2)), ((1, 3), (2, 3)), ((2, 0), (1, 0)), ((2, 4), (3, 4)), ((3, 1), (2, 1)), ((3, 3), (3, 2)), ((4, 0), (3, 0)), ((4, 2), (4, 1)), ((4, 4), (4, 3)))
    >>> is_free(yard, shut), is_shut(yard, shut), depth(yard, shut), len(ring_round(yard, shut)), never_reached(yard, shut) == rim_posts(yard)
    (False, True, 1, 8, True)
    >>> loose = (((0, 0), (0, 1)), ((0, 2), (0, 3)), ((0, 4), (1, 4)), ((1, 1), (1, 0)), ((1, 3), (1, 2)), ((2, 0), (2, 1)), ((2, 4), (3, 4)), ((3, 1), (3, 2)), ((3, 3), (2, 3)), ((4, 0), (3, 0)), ((4, 2), (4, 1)), ((4, 4), (4, 3)))
    >>> is_free(yard, loose), nearest_rim(yard, loose), depth(yard, loose), never_reached(yard, loose)
    (True, 1, 0, ())
    >>> [is_why_free(yard, loose, own) for own in (((2, 0),), ((2, 0), (4, 0)), (), ((2, 0), (2, 2)), ((4, 0),), why_free(yard, loose))]
    [True, True, False, False, False, True]
    >>> small = (((0, 0), (0, 1)), ((0, 2), (1, 2)), ((2, 0), (1, 0)), ((2, 2), (2, 1)))
    >>> is_shut(((0, 0),), small), depth(((0, 0),), small), ring_round(((0, 0),), small), never_reached(((0, 0),), small)
    (True, 1, ((0, 0), (0, 2), (2, 2), (2, 0)), ())
    >>> corner = (((0, 2), (0, 1)), ((1, 1), (1, 0)), ((2, 0), (2, 1)), ((2, 2), (1, 2)))
    >>> is_free(((0, 0),), corner), why_free(((0, 0),), corner), nearest_rim(((0, 0),), corner), is_free(yard, opened(yard, shut))
    (True, (), 0, True)
    >>> ring_round(yard, loose)
    raises CanNot()
    >>> why_free(yard, shut)
    raises CanNot()
    >>> opened(((0, 0),), small)
    raises CanNot()
'''
SHUT = nested(2)
LOOSE = (
    ((0, 0), (0, 1)), ((0, 2), (0, 3)), ((0, 4), (1, 4)), ((1, 1), (1, 0)), ((1, 3), (1, 2)), ((2, 0), (2, 1)),
    ((2, 4), (3, 4)), ((3, 1), (3, 2)), ((3, 3), (2, 3)), ((4, 0), (3, 0)), ((4, 2), (4, 1)), ((4, 4), (4, 3)),
)
SMALL_RING = (((0, 0), (0, 1)), ((0, 2), (1, 2)), ((2, 0), (1, 0)), ((2, 2), (2, 1)))
CORNER = (((0, 2), (0, 1)), ((1, 1), (1, 0)), ((2, 0), (2, 1)), ((2, 2), (1, 2)))
BY_FLOOR = (is_free, is_shut, depth, ring_round, why_free, never_reached, nearest_rim, opened)
GREAT = (ROW40, BLOCK40, SNAKE40, grown(40, 91), boxed(6, 6))


def rim_by_words(yard):
    """The POSTS at which not all four SQUARES are of the YARD."""
    return tuple(
        (x, y) for x, y in all_places(yard) if x % 2 == 0
        and not {(x // 2 - a, y // 2 - b) for a in (0, 1) for b in (0, 1)} <= set(yard)
    )


def samples():
    """Pairs (yard, floor): all FLOORS of small YARDS, some of greater ones, HOLES at inner POSTS often."""
    found = [(yard, floor) for yard in (ONE, TWO) for floor in every_floor(yard)]
    for at, yard in enumerate((BEND, FAR, BOX, STAIRS, CROSS, ARCH, OBLONG, COMB, NINE)):
        found += [(yard, floor) for floor in sample_floors(yard, 500 + at)]
    chance = random.Random(21)
    found += [(NINE, chance_floor(NINE, hole, chance)) for hole in ((2, 2), (2, 4), (4, 2)) for _ in range(12)]
    found += [(BOX, nested(2, turned)) for turned in ((), (1,), (2,), (1, 2))]
    found += [(boxed(many, many), nested(many, (2, 3))) for many in (3, 4, 5, 6)]
    return found


def shut_at_inner_posts():
    """FLOORS of NINE that are SHUT with the HOLE at an inner POST, though there are SLIDES."""
    chance = random.Random(5)
    found = []
    for _ in range(400):
        floor = chance_floor(NINE, (2, 2), chance)
        if rings_by_walk(floor) and len(search(NINE, floor)) > 1:
            found.append(floor)
    return found


class ShutTest(unittest.TestCase):
    def test_examples(self):
        run_examples(self, EXAMPLES, vars(module))

    def test_rim_posts(self):
        for yard in YARDS + (grown(40, 2), boxed(6, 6), BOX):
            self.assertEqual(rim_posts(yard), rim_by_words(yard))
        self.assertEqual(rim_posts(boxed(6, 6))[:9], tuple((0, 2 * y) for y in range(7)) + ((2, 0), (2, 12)))

    def test_beside_a_plain_search(self):
        for yard, floor in samples() + [(yard, own) for yard in GREAT for own in sample_floors(yard, 22, 17)]:
            self.check_floor(yard, floor)

    def test_all_floors_of_four_squares(self):
        shut = 0
        for floor in every_floor(BOX):
            if hole_by_words(BOX, floor) == (2, 2):
                self.check_floor(BOX, floor)
                shut += is_shut(BOX, floor)
        self.assertEqual(shut, 4)
        for floor in every_floor(BOX)[::9]:
            self.check_floor(BOX, floor)

    def test_shut_at_an_inner_post(self):
        some = shut_at_inner_posts()
        self.assertGreater(len(some), 0)
        for floor in some:
            self.check_floor(NINE, floor)
            self.assertIs(is_shut(NINE, floor), True)
            self.assertGreater(len(slides(NINE, floor)), 0)
            self.assertTrue(set(rim_posts(NINE)) <= set(never_reached(NINE, floor)))

    def check_floor(self, yard, floor):
        hole = hole_by_words(yard, floor)
        plans = holes_by_search(yard, floor)
        at_rim = {place: plan for place, plan in plans.items() if place in rim_by_words(yard)}
        about = [ring for ring in rings_by_walk(floor) if kind_by_words(ring[0]) == "post"]
        free = bool(at_rim)
        self.assertIs(is_free(yard, floor), free)
        self.assertIs(is_shut(yard, floor), not free)
        self.assertEqual(depth(yard, floor), len(about))
        self.assertEqual(len(about) > 0, not free)
        own_kind = [place for place in all_places(yard) if kind_by_words(place) == kind_by_words(hole)]
        self.assertEqual(never_reached(yard, floor), tuple(place for place in own_kind if place not in plans))
        for ring in about:
            self.assertIs(is_ring_round(yard, floor, ring), True)
        if free:
            self.check_free(yard, floor, at_rim)
        else:
            self.check_shut(yard, floor, about)
        for place in slides(yard, floor):
            after = slid(yard, floor, place)
            self.assertIs(is_free(yard, after), free)
            self.assertIs(is_shut(yard, after), not free)
            self.assertEqual(rings_by_walk(after), rings_by_walk(floor))

    def check_free(self, yard, floor, at_rim):
        self.assertEqual(kind_by_words(hole_by_words(yard, floor)), "post")
        self.assertEqual(never_reached(yard, floor), ())
        least = min(len(plan) for plan in at_rim.values())
        self.assertEqual(nearest_rim(yard, floor), least)
        why = why_free(yard, floor)
        self.assertIs(is_why_free(yard, floor, why), True)
        self.assertIn(hole_by_words(yard, behind(yard, floor, why)), at_rim)
        if least == 0:
            self.assertEqual(why, ())
        self.assertRaises(CanNot, ring_round, yard, floor)
        self.assertTrue(is_free(yard, opened(yard, floor)))
        for place, plan in list(holes_by_search(yard, floor).items())[:12]:
            self.assertIs(is_why_free(yard, floor, plan), place in at_rim)

    def check_shut(self, yard, floor, about):
        hole = hole_by_words(yard, floor)
        inside = within_by_flood(yard, ring_round(yard, floor))
        self.assertIn(hole, inside)
        self.assertIn(ring_round(yard, floor), about)
        for ring in about:
            self.assertTrue(set(inside) <= set(within_by_flood(yard, ring)))
        every = rings_by_walk(floor)
        first = min((within_by_flood(yard, ring) for ring in every), key=len)
        reached = tuple(place for place in first if kind_by_words(place) == kind_by_words(hole))
        self.assertEqual(tuple(sorted(holes_by_search(yard, floor))), reached)
        self.assertRaises(CanNot, why_free, yard, floor)
        self.assertRaises(CanNot, nearest_rim, yard, floor)
        self.assertIs(is_why_free(yard, floor, ()), False)
        for plan in list(holes_by_search(yard, floor).values())[:5]:
            self.assertIs(is_why_free(yard, floor, plan), False)

    def test_opened(self):
        chance = random.Random(17)
        yards = (ONE, TWO, BEND, FAR, BOX, STAIRS, CROSS, ARCH, OBLONG, COMB, NINE) + GREAT
        for yard in yards:
            for hole in all_places(yard)[::1 if len(yard) < 10 else 5]:
                floor = chance_floor(yard, hole, chance)
                if kind_by_words(hole) == "plot":
                    self.assertRaises(CanNot, opened, yard, floor)
                    continue
                told = opened(yard, floor)
                self.assertTrue(is_floor(yard, told))
                self.assertEqual(hole_by_words(yard, told), hole)
                self.assertFalse([ring for ring in rings_by_walk(told) if kind_by_words(ring[0]) == "post"])
                self.assertTrue(is_free(yard, told))
                self.assertEqual(opened(as_lists(yard), as_lists(floor)), told)
        for many in (2, 4, 6):
            for turned in ((), (1,), (2,)):
                told = opened(boxed(many, many), nested(many, turned))
                self.assertEqual(hole_by_words(boxed(many, many), told), (many, many))
                self.assertTrue(is_free(boxed(many, many), told))

    def test_numbers_of_shut_floors(self):
        for yard in (ONE, TWO, BEND, BOX):
            for hole in all_places(yard):
                own = [floor for floor in every_floor(yard) if hole_by_words(yard, floor) == hole]
                self.assertEqual(len(own), how_many(yard, hole))
                self.assertEqual(sum(is_shut(yard, floor) for floor in own), shut_many(yard, hole))

    def test_several_rings(self):
        for many in range(1, 7):
            yard, floor = boxed(many, many), nested(many, (1, 4))
            self.assertEqual(depth(yard, floor), (many + 1) // 2)
            inner = [ring for ring in rings_by_walk(floor) if kind_by_words(ring[0]) == "post"]
            self.assertEqual(ring_round(yard, floor), max(inner))
            self.assertEqual(len(ring_round(yard, floor)), 4 if many % 2 else 8)
            self.assertEqual([is_ring_round(yard, floor, ring) for ring in inner], [True] * len(inner))
            plots = [ring for ring in rings_by_walk(floor) if kind_by_words(ring[0]) == "plot"]
            self.assertEqual([is_ring_round(yard, floor, ring) for ring in plots], [False] * (many // 2))
            # Each PLACE of the HOLE's kind but the HOLE itself is shut off.
            kind = kind_by_words((many, many))
            wanted = [own for own in all_places(yard) if kind_by_words(own) == kind and own != (many, many)]
            self.assertEqual(never_reached(yard, floor), tuple(wanted))

    def test_things(self):
        for thing in NEVER + (((2, 0), [4, 0]), [(2, 0)], as_lists(((2, 0), (4, 0))), (2, 0), ((2, False),), []):
            self.assertIs(is_why_free(BOX, LOOSE, thing), False, thing)
            self.assertIs(is_ring_round(BOX, SHUT, thing), False, thing)
        for thing in (((2, 0), (1, 0)), ((2, 0), (2, 0)), ((9, 9),), ((2, 0), (2, 2)), ((2, 4),), ()):
            self.assertIs(is_why_free(BOX, LOOSE, thing), False, thing)
        self.assertIs(is_why_free(BOX, LOOSE, ((2, 0), (2, 2)) * 50000 + ((2, 0),)), True)
        self.assertIs(is_why_free(BOX, LOOSE, ((2, 0), (2, 2)) * 50000), False)
        self.assertIs(is_why_free(ONE, CORNER, ()), True)
        self.assertIs(is_why_free(ONE, CORNER, []), False)
        self.assertIs(is_why_free(ONE, SMALL_RING, ()), False)
        ring = ring_round(BOX, SHUT)
        for thing in (list(ring), as_lists(ring), ring[1:] + ring[:1], ring[:1] + ring[:0:-1], ring[:-1], ring * 2):
            self.assertIs(is_ring_round(BOX, SHUT, thing), False)
        self.assertIs(is_ring_round(BOX, SHUT, ((0, False),) + ring[1:]), False)
        self.assertIs(is_ring_round(BOX, SHUT, ((1, 1), (1, 3), (3, 3), (3, 1))), False)
        self.assertIs(is_ring_round(BOX, SHUT, ring), True)
        self.assertIs(is_ring_round(BOX, LOOSE, ring), False)

    def test_unfit(self):
        for yard, floor in ((ONE, CORNER), (ONE, SMALL_RING)):
            bent = no_floors(yard, floor) + ((), ONE, sample_floors(TWO)[0])
            for function in BY_FLOOR:
                check_never(self, function, (yard, floor), 0, Unfit, BAD_YARDS)
                check_never(self, function, (yard, floor), 1, Unfit, bent)
            for function in (is_ring_round, is_why_free):
                check_never(self, function, (yard, floor, None), 0, Unfit, BAD_YARDS)
                check_never(self, function, (yard, floor, None), 1, Unfit, bent)
        check_never(self, rim_posts, (ONE,), 0, Unfit, BAD_YARDS)

    def test_forms(self):
        floors = [(BOX, SHUT), (BOX, LOOSE), (ONE, SMALL_RING), (ONE, CORNER), (NINE, nested(3))]
        for yard, floor in floors + [(FAR, own) for own in sample_floors(FAR, 23, 3)]:
            check_calls(self, rim_posts, ("yard",), (yard,))
            for function in BY_FLOOR:
                check_calls(self, function, ("yard", "floor"), (yard, floor))
        self.assertIs(is_why_free(thing=((2, 0),), floor=as_lists(LOOSE), yard=as_lists(BOX)), True)
        told = is_ring_round(thing=ring_round(BOX, SHUT), floor=as_lists(SHUT), yard=as_lists(BOX))
        self.assertIs(told, True)


if __name__ == "__main__":
    unittest.main()
