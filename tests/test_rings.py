import unittest

from holefloors import rings as module
from holefloors.arrows import ends_in, tree
from holefloors.errors import CanNot, NoPlace, TooMany, Unfit
from holefloors.floors import is_floor
from holefloors.rings import all_turned, innermost, is_ring, lies_within, outermost, places_within, ring_about
from holefloors.rings import rings, rings_outward, turned_ring
from holefloors.yards import boxed
from tests.support import ARCH, BAD_YARDS, BEND, BLOCK40, BOX, COMB, CROSS, FAR, NEVER, NINE, OBLONG, ONE, ROW40
from tests.support import SNAKE40, STAIRS, TWO, all_places, as_lists, cells_by_squares, check_calls, check_never
from tests.support import every_floor, grown, hole_by_words, kind_by_words, nested, no_floors, outcome
from tests.support import rings_by_walk, run_examples, sample_floors, within_by_flood

EXAMPLES = '''
    >>> yard = ((0, 0), (0, 1), (1, 0), (1, 1))
    >>> shut = (((0, 0), (0, 1)), ((0, 2), (0, 3)), ((0, 4), (1, 4)), ((1, 1), (1, 2)), ((1, 3), (2, 3)), ((2, 0), (1, 0)), ((2, 4), (3, 4)), ((3, 1), (2, 1)), ((3, 3), (3, 2)), ((4, 0), (3, 0)), ((4, 2), (4, 1)), ((4, 4), (4, 3)))
    >>> rings(yard, shut, "plot"), rings(yard, shut, "post")
    ([((1, 1), (1, 3), (3, 3), (3, 1))], [((0, 0), (0, 2), (0, 4), (2, 4), (4, 4), (4, 2), (4, 0), (2, 0))])
    >>> innermost(yard, shut), len(rings_outward(yard, shut)), ring_about(yard, shut, (1, 1)) == outermost(yard, shut)
    (((1, 1), (1, 3), (3, 3), (3, 1)), 2, True)
    >>> places_within(yard, shut, innermost(yard, shut)), [lies_within(yard, shut, outermost(yard, shut), own) for own in ((2, 2), (3, 3), (4, 2))]
    (((2, 2),), [True, True, False])
    >>> other = turned_ring(yard, shut, innermost(yard, shut))
    >>> rings(yard, other, "plot"), rings(yard, other, "post") == rings(yard, shut, "post"), len(all_turned(yard, shut)), other in all_turned(yard, shut)
    ([((1, 1), (3, 1), (3, 3), (1, 3))], True, 4, True)
    >>> small = (((0, 0), (0, 1)), ((0, 2), (1, 2)), ((2, 0), (1, 0)), ((2, 2), (2, 1)))
    >>> rings_outward(((0, 0),), small), all_turned(((0, 0),), small)[1]
    ([((0, 0), (0, 2), (2, 2), (2, 0))], (((0, 0), (1, 0)), ((0, 2), (0, 1)), ((2, 0), (2, 1)), ((2, 2), (1, 2))))
    >>> [is_ring(yard, shut, own) for own in (((1, 1), (1, 3), (3, 3), (3, 1)), ((1, 3), (3, 3), (3, 1), (1, 1)), ((1, 1), (3, 1), (3, 3), (1, 3)), None)]
    [True, False, False, False]
    >>> ring_about(yard, shut, (0, 0))
    raises CanNot()
    >>> lies_within(yard, shut, innermost(yard, shut), (1, 2))
    raises NoPlace(place=(1, 2))
'''
SHUT = nested(2)
SMALL_RING = (((0, 0), (0, 1)), ((0, 2), (1, 2)), ((2, 0), (1, 0)), ((2, 2), (2, 1)))
FREE = (((0, 2), (0, 1)), ((1, 1), (1, 0)), ((2, 0), (2, 1)), ((2, 2), (1, 2)))
BY_FLOOR = (rings_outward, innermost, outermost, all_turned)
GREAT = (ROW40, BLOCK40, SNAKE40, grown(40, 71))


def shifted(floor, east, north):
    return tuple(((x + east, y + north), (a + east, b + north)) for (x, y), (a, b) in floor)


def deep_floors():
    """Pairs (yard, floor) with several RINGS, all turned in many ways."""
    found = [(boxed(3, 3), nested(3, turned)) for turned in ((), (1,), (2, 3), (1, 2, 3))]
    found += [(boxed(4, 4), nested(4, turned)) for turned in ((), (1, 3), (2, 4))]
    found += [(boxed(5, 5), nested(5, turned)) for turned in ((), (2, 5))]
    found += [(boxed(6, 6), nested(6, turned)) for turned in ((), (4, 6))]
    far = tuple((x + 30, y + 20) for x, y in boxed(3, 3))
    return found + [(far, shifted(nested(3, (2,)), 60, 40))]


def samples():
    """Pairs (yard, floor): all FLOORS of small YARDS, some of greater ones, and such with several RINGS."""
    found = [(yard, floor) for yard in (ONE, TWO) for floor in every_floor(yard)]
    for at, yard in enumerate((BEND, FAR, BOX, STAIRS, CROSS, ARCH, OBLONG, COMB, NINE)):
        found += [(yard, floor) for floor in sample_floors(yard, 400 + at)]
    return found + [(BOX, nested(2, turned)) for turned in ((), (1,), (2,), (1, 2))] + deep_floors()


class RingsTest(unittest.TestCase):
    def test_examples(self):
        run_examples(self, EXAMPLES, vars(module))

    def test_rings_beside_a_plain_walk(self):
        for yard, floor in samples() + [(yard, own) for yard in GREAT for own in sample_floors(yard, 18, 11)]:
            every = rings_by_walk(floor)
            for kind in ("post", "plot"):
                told = rings(yard, floor, kind)
                self.assertEqual(told, [ring for ring in every if kind_by_words(ring[0]) == kind])
                self.assertIs(type(told), list)
            for ring in every:
                self.assertIs(is_ring(yard, floor, ring), True)
                self.assertEqual(min(ring), ring[0])
                self.assertEqual({ends_in(yard, floor, place) for place in ring}, {"ring"})
            self.assertEqual(sorted(rings_outward(yard, floor)), every)

    def test_all_floors_of_four_squares(self):
        met = set()
        for floor in every_floor(BOX)[::3]:
            every = rings_by_walk(floor)
            met.add(len(every))
            self.assertEqual(sorted(rings_outward(BOX, floor)), every)
            self.check_turns(BOX, floor)
        self.assertEqual(met, {0, 1, 2})

    def test_outward_by_turns(self):
        for yard, floor in samples():
            self.check_turns(yard, floor)

    def check_turns(self, yard, floor):
        hole = hole_by_words(yard, floor)
        told = rings_outward(yard, floor)
        kinds = [kind_by_words(ring[0]) for ring in told]
        if kind_by_words(hole) == "post":
            self.assertEqual(kinds, ["plot", "post"] * (len(kinds) // 2))
        else:
            self.assertEqual(kinds, ["post"] + ["plot", "post"] * (len(kinds) // 2))
        for ring, outer in zip(told, told[1:]):
            self.assertTrue(set(ring) <= set(within_by_flood(yard, outer)))
            self.assertTrue(set(within_by_flood(yard, ring)) < set(within_by_flood(yard, outer)))
        for ring in told:
            self.assertIn(hole, within_by_flood(yard, ring))
        if told:
            self.assertEqual((innermost(yard, floor), outermost(yard, floor)), (told[0], told[-1]))
        else:
            self.assertRaises(CanNot, innermost, yard, floor)
            self.assertRaises(CanNot, outermost, yard, floor)

    def test_within(self):
        for yard, floor in [own for own in samples() if rings_by_walk(own[1])][::2] + deep_floors():
            every = rings_outward(yard, floor)
            inside = [within_by_flood(yard, ring) for ring in every]
            for ring, wanted in zip(every, inside):
                self.assertEqual(places_within(yard, floor, ring), wanted)
                for place in all_places(yard)[::2] + list(ring[:3]):
                    self.assertIs(lies_within(yard, floor, ring, place), place in wanted)
            for place in all_places(yard):
                about = [ring for ring, wanted in zip(every, inside) if place in wanted]
                if about:
                    self.assertEqual(ring_about(yard, floor, place), about[0])
                else:
                    self.assertRaises(CanNot, ring_about, yard, floor, place)

    def test_great_rings_of_bends(self):
        # RINGS that are no boxes: the line to the east crosses them often.
        found = 0
        for seed in range(6):
            for yard in (BLOCK40, grown(40, 80 + seed), boxed(6, 6)):
                for floor in sample_floors(yard, seed, 7):
                    for ring in rings_by_walk(floor):
                        self.assertEqual(places_within(yard, floor, ring), within_by_flood(yard, ring))
                        found += len(ring) > 8
        self.assertGreater(found, 50)

    def test_turned(self):
        for yard, floor in samples():
            every = rings_by_walk(floor)
            for ring in every:
                other = turned_ring(yard, floor, ring)
                self.assertTrue(is_floor(yard, other))
                self.assertNotEqual(other, floor)
                round_again = ring[:1] + ring[:0:-1]
                wanted = sorted([own for own in every if own != ring] + [round_again])
                self.assertEqual(rings_by_walk(other), wanted)
                self.assertEqual(tree(yard, other), tree(yard, floor))
                self.assertEqual(hole_by_words(yard, other), hole_by_words(yard, floor))
                self.assertEqual(turned_ring(yard, other, round_again), floor)
                kept = [own for own in floor if own[0] not in ring]
                self.assertEqual([own for own in other if own[0] not in ring], kept)
                rail_of = dict(floor)
                for place, after in zip(ring, ring[1:] + ring[:1]):
                    self.assertEqual(dict(other)[after], rail_of[place])

    def test_all_turned(self):
        for yard, floor in samples()[::3] + deep_floors()[::2]:
            told = all_turned(yard, floor)
            self.assertIs(type(told), list)
            wanted = {floor}
            for _ in rings_by_walk(floor):
                wanted |= {turned_ring(yard, own, ring) for own in wanted for ring in rings_by_walk(own)}
            self.assertEqual(told, sorted(wanted))
            self.assertEqual(len(told), 2 ** len(rings_by_walk(floor)))
            self.assertEqual(all_turned(yard, told[-1]), told)

    def test_about_two_thousand(self):
        self.assertEqual(len(all_turned(boxed(6, 6), nested(6))), 64)
        ten, eleven = boxed(10, 10), boxed(11, 11)
        told = all_turned(ten, nested(10))
        self.assertEqual(len(told), 1024)
        self.assertEqual(told, sorted(set(told)))
        self.assertIn(nested(10, (3, 10)), told)
        self.assertRaises(TooMany, all_turned, eleven, nested(11))
        self.assertRaises(TooMany, all_turned, eleven, nested(11, (1, 5)))
        self.assertEqual(len(rings_outward(eleven, nested(11))), 11)
        self.assertRaises(Unfit, all_turned, eleven, nested(11)[1:])

    def test_without_a_ring(self):
        for yard, floor in ((ONE, FREE), (ROW40, sample_floors(ROW40, 1, 100)[0])):
            self.assertEqual(rings(yard, floor, "post"), [])
            self.assertEqual(rings(yard, floor, "plot"), [])
            self.assertEqual(rings_outward(yard, floor), [])
            self.assertEqual(all_turned(yard, floor), [floor])
            for place in all_places(yard)[:9]:
                self.assertRaises(CanNot, ring_about, yard, floor, place)
            for function in (turned_ring, places_within):
                self.assertRaises(Unfit, function, yard, floor, ())

    def bent_rings(self, yard, floor):
        """What is nearly a RING of the FLOOR."""
        every = rings_by_walk(floor)
        bent = [()]
        for ring in every:
            bent += [ring[1:] + ring[:1], ring[2:] + ring[:2], ring[:1] + ring[:0:-1], ring[::-1], ring + ring[:1]]
            bent += [ring * 2, ring[:-1], ring[1:], ring[:2] + ring[1:], (ring,), ring + (None,)]
            bent += [tuple((x + 2, y) for x, y in ring), tuple((x + 1, y) for x, y in ring)]
        for ring, other in zip(every, every[1:]):
            bent += [ring + other, (ring, other)]
        return bent

    def test_bent_rings(self):
        for yard, floor in ((ONE, SMALL_RING), (BOX, SHUT), (NINE, nested(3, (2,)))):
            hole = hole_by_words(yard, floor)
            for bent in self.bent_rings(yard, floor):
                self.assertIs(is_ring(yard, floor, bent), False)
                self.assertRaises(Unfit, turned_ring, yard, floor, bent)
                self.assertRaises(Unfit, places_within, yard, floor, bent)
                for place in (hole, (1, 0), (99, 99)):
                    self.assertRaises(Unfit, lies_within, yard, floor, bent, place)
            # A RING of another FLOOR, the same PLACES the other way round, is none of this one.
            for ring in rings_by_walk(floor):
                other = turned_ring(yard, floor, ring)
                self.assertIs(is_ring(yard, other, ring), False)
                self.assertRaises(Unfit, turned_ring, yard, other, ring)

    def test_things(self):
        ring = innermost(BOX, SHUT)
        for thing in NEVER + ((), list(ring), as_lists(ring), (list(ring[0]),) + ring[1:], ring[:3] + ([3, 1],)):
            self.assertIs(is_ring(BOX, SHUT, thing), False, thing)
        self.assertEqual(ring[0], (1, 1))
        self.assertIs(is_ring(BOX, SHUT, ((True, 1),) + ring[1:]), False)
        self.assertIs(is_ring(BOX, SHUT, ring[:1] + ((True, 3),) + ring[2:]), False)
        self.assertIs(is_ring(BOX, SHUT, ring), True)

    def test_order_of_errors(self):
        ring = innermost(BOX, SHUT)
        for place in sorted(cells_by_squares(BOX)[1]) + [(5, 5), (-1, 1), (-2, -2), (0, 99), (10 ** 6, 0)]:
            wanted = f"raises NoPlace(place={place})"
            self.assertEqual(outcome(lies_within, (BOX, SHUT, ring, list(place))), wanted)
            self.assertEqual(outcome(ring_about, (BOX, SHUT, list(place))), wanted)
            self.assertEqual(outcome(ring_about, (BOX, sample_floors(BOX)[0], list(place))), wanted)
            self.assertRaises(Unfit, lies_within, BOX, SHUT, ring[1:], place)
        for place in ring + outermost(BOX, SHUT):
            self.assertIs(lies_within(BOX, SHUT, ring, place), False)
        for place in outermost(BOX, SHUT):
            self.assertRaises(CanNot, ring_about, BOX, SHUT, place)

    def test_unfit(self):
        bent = no_floors(ONE, SMALL_RING) + ((), ONE, sample_floors(TWO)[0])
        ring = innermost(ONE, SMALL_RING)
        for function, more in (
            (rings, ("post",)), (is_ring, (ring,)), (is_ring, (None,)), (rings_outward, ()), (innermost, ()),
            (outermost, ()), (lies_within, (ring, (1, 1))), (lies_within, (ring, (1, 0))), (places_within, (ring,)),
            (ring_about, ((1, 1),)), (ring_about, ((1, 0),)), (turned_ring, (ring,)), (all_turned, ()),
        ):
            check_never(self, function, (ONE, SMALL_RING) + more, 0, Unfit, BAD_YARDS)
            check_never(self, function, (ONE, SMALL_RING) + more, 1, Unfit, bent)
        check_never(self, innermost, (ONE, FREE), 0, Unfit, BAD_YARDS)
        check_never(self, rings, (ONE, SMALL_RING, "post"), 2, Unfit, ("", "Post", ["post"], "ring", "posts"))
        for place in ((1, 1), (1, 0)):
            check_never(self, lies_within, (ONE, SMALL_RING, ring, place), 2, Unfit, (ring[0], ((True, 0),) + ring[1:]))
        check_never(self, lies_within, (ONE, SMALL_RING, ring, (1, 1)), 3, Unfit, ((), ring))
        check_never(self, places_within, (ONE, SMALL_RING, ring), 2, Unfit, (ring[0], SMALL_RING))
        check_never(self, turned_ring, (ONE, SMALL_RING, ring), 2, Unfit, (ring[0], SMALL_RING))
        check_never(self, ring_about, (ONE, SMALL_RING, (1, 1)), 2, Unfit, ((), ring))
        self.assertRaises(NoPlace, lies_within, ONE, SMALL_RING, ring, (1, 0))

    def test_forms(self):
        floors = [(BOX, SHUT), (NINE, nested(3)), (ONE, FREE), (ONE, SMALL_RING)]
        for yard, floor in floors + [(BEND, own) for own in sample_floors(BEND, 19, 5)]:
            for function in BY_FLOOR:
                check_calls(self, function, ("yard", "floor"), (yard, floor))
            for kind in ("post", "plot"):
                check_calls(self, rings, ("yard", "floor", "kind"), (yard, floor, kind))
            for place in all_places(yard)[::3] + [(1, 0)]:
                check_calls(self, ring_about, ("yard", "floor", "place"), (yard, floor, place))
            for ring in rings_by_walk(floor) + [()]:
                check_calls(self, places_within, ("yard", "floor", "ring"), (yard, floor, ring))
                check_calls(self, turned_ring, ("yard", "floor", "ring"), (yard, floor, ring))
                for place in all_places(yard)[::4] + [(1, 0)]:
                    check_calls(self, lies_within, ("yard", "floor", "ring", "place"), (yard, floor, ring, place))
        told = is_ring(thing=innermost(BOX, SHUT), floor=as_lists(SHUT), yard=as_lists(BOX))
        self.assertIs(told, True)
        check_calls(self, all_turned, ("yard", "floor"), (boxed(11, 11), nested(11)))


if __name__ == "__main__":
    unittest.main()
