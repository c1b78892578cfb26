import unittest

from holefloors import lots as module
from holefloors.arrows import never_moved, tree, tree_rails
from holefloors.counts import free_many, how_many
from holefloors.errors import CanNot, NoPlace, TooMany, Unfit
from holefloors.floors import is_floor
from holefloors.lots import are_of_one, families, free_families, how_many_standings, is_standing, least_standing
from holefloors.lots import standing_at, standings
from tests.support import ARCH, BAD_YARDS, BEND, BLOCK40, BOX, COMB, CROSS, FAR, NEVER, NINE, OBLONG, ONE, ROW40
from tests.support import SNAKE40, STAIRS, TWO, all_places, as_lists, cells_by_squares, check_calls, check_never
from tests.support import every_floor, grown, has_post_ring, hole_by_words, kind_by_words, nested, no_floors
from tests.support import outcome, run_examples, sample_floors, search, small_yards

EXAMPLES = '''
    >>> one, start = ((0, 0),), (((0, 2), (0, 1)), ((1, 1), (1, 0)), ((2, 0), (2, 1)), ((2, 2), (1, 2)))
    >>> standings(one, start)[1]
    ((0, 2), (((0, 0), (0, 1)), ((1, 1), (1, 0)), ((2, 0), (2, 1)), ((2, 2), (1, 2))))
    >>> far = standing_at(one, start, (2, 0))
    >>> far, standing_at(one, start, (0, 0)) == start, how_many_standings(one, start)
    ((((0, 0), (0, 1)), ((0, 2), (1, 2)), ((1, 1), (1, 0)), ((2, 2), (2, 1))), True, 4)
    >>> least_standing(one, start), is_standing(one, start, far), is_standing(one, far, start), is_standing(one, start, list(far))
    ((((0, 0), (0, 1)), ((0, 2), (1, 2)), ((1, 1), (1, 0)), ((2, 0), (2, 1))), True, True, False)
    >>> shut, turned = (((0, 0), (0, 1)), ((0, 2), (1, 2)), ((2, 0), (1, 0)), ((2, 2), (2, 1))), (((0, 0), (1, 0)), ((0, 2), (0, 1)), ((2, 0), (2, 1)), ((2, 2), (1, 2)))
    >>> standings(one, shut) == [((1, 1), shut)], are_of_one(one, start, far), are_of_one(one, shut, turned), families(one, "plot") == [shut, turned]
    (True, True, False, True)
    >>> len(families(one, "post")), free_families(one) == families(one, "post"), families(one, "post")[0] == least_standing(one, start)
    (4, True, True)
    >>> [len(families(((0, 0), (1, 0)), own)) for own in ("post", "plot")], len(free_families(((0, 0), (1, 0))))
    ([15, 14], 15)
    >>> standing_at(one, shut, (0, 0))
    raises CanNot()
    >>> standing_at(one, start, (0, 1))
    raises NoPlace(place=(0, 1))
    >>> families(one, "rail")
    raises Unfit()
'''
START = (((0, 2), (0, 1)), ((1, 1), (1, 0)), ((2, 0), (2, 1)), ((2, 2), (1, 2)))
BY_FLOOR = (standings, how_many_standings, least_standing)
ROW3 = ((0, 0), (1, 0), (2, 0))
SEVERAL = (ONE, TWO, ((0, 0), (0, 1)), BEND, FAR, ROW3, BOX)
GREAT = (ROW40, BLOCK40, SNAKE40, grown(40, 61))


def samples():
    """Pairs (yard, floor): all FLOORS of one SQUARE, some of greater YARDS."""
    found = [(ONE, floor) for floor in every_floor(ONE)]
    for at, yard in enumerate((TWO, BEND, FAR, BOX, STAIRS, CROSS, ARCH, OBLONG, COMB)):
        found += [(yard, floor) for floor in sample_floors(yard, 300 + at)]
    found += [(NINE, floor) for floor in sample_floors(NINE, 78, 3)]
    return found + [(BOX, nested(2)), (NINE, nested(3))]


def families_by_search(yard, kind):
    """The families of all FLOORS with a HOLE of a kind, each as a tuple of FLOORS, ascending."""
    found, seen = [], set()
    for floor in every_floor(yard):
        if kind_by_words(hole_by_words(yard, floor)) == kind and floor not in seen:
            family = sorted(own for own, _ in search(yard, floor))
            seen |= set(family)
            found.append(tuple(family))
    return sorted(found)


class LotsTest(unittest.TestCase):
    def test_examples(self):
        run_examples(self, EXAMPLES, vars(module))

    def test_standings_beside_a_plain_search(self):
        for yard, floor in samples():
            wanted = sorted((hole_by_words(yard, own), own) for own, _ in search(yard, floor))
            told = standings(yard, floor)
            self.assertEqual(told, wanted)
            self.assertIs(type(told), list)
            self.assertEqual(tuple(place for place, _ in told), tree(yard, floor))
            self.assertEqual(how_many_standings(yard, floor), len(wanted))
            self.assertEqual(least_standing(yard, floor), min(own for _, own in wanted))
            self.assertEqual(standing_at(yard, floor, hole_by_words(yard, floor)), floor)
            for place in all_places(yard):
                if place in dict(wanted):
                    self.assertEqual(standing_at(yard, floor, place), dict(wanted)[place])
                else:
                    self.assertRaises(CanNot, standing_at, yard, floor, place)
            for place, own in wanted[:4]:
                self.assertIs(is_standing(yard, floor, own), True)
                self.assertIs(are_of_one(yard, own, floor), True)
                self.assertEqual(standings(yard, own), wanted)
                self.assertEqual(least_standing(yard, own), least_standing(yard, floor))

    def test_what_stays(self):
        for yard, floor in samples()[::3]:
            hole = hole_by_words(yard, floor)
            for place, own in standings(yard, floor):
                self.assertTrue(is_floor(yard, own))
                self.assertEqual(hole_by_words(yard, own), place)
                self.assertEqual(kind_by_words(place), kind_by_words(hole))
                other_kind = [couple for couple in floor if kind_by_words(couple[0]) != kind_by_words(hole)]
                self.assertTrue(set(other_kind) <= set(own))
                self.assertEqual(tree_rails(yard, own), tree_rails(yard, floor))
                self.assertEqual(never_moved(yard, own), never_moved(yard, floor))

    def test_of_one_family(self):
        for yard in (ONE, TWO, BEND):
            for kind in ("post", "plot"):
                lot = families_by_search(yard, kind)
                for at, family in enumerate(lot[::5]):
                    for floor in family[::2]:
                        self.assertIs(are_of_one(yard, family[0], floor), True)
                        self.assertIs(is_standing(yard, family[0], floor), True)
                    for other in lot[::4]:
                        same = other == family
                        for floor in other[::3]:
                            self.assertIs(are_of_one(yard, family[-1], floor), same)
                            self.assertIs(is_standing(yard, family[-1], floor), same)
            post, plot = families_by_search(yard, "post")[0][0], families_by_search(yard, "plot")[0][0]
            self.assertIs(are_of_one(yard, post, plot), False)
            self.assertIs(is_standing(yard, plot, post), False)

    def test_families_beside_all_floors(self):
        for yard in SEVERAL:
            for kind in ("post", "plot"):
                wanted = families_by_search(yard, kind)
                told = families(yard, kind)
                self.assertEqual(told, [family[0] for family in wanted])
                self.assertIs(type(told), list)
                holes = [place for place in all_places(yard) if kind_by_words(place) == kind]
                self.assertEqual(sum(len(family) for family in wanted), sum(how_many(yard, own) for own in holes))
                for family in wanted:
                    free = not has_post_ring(family[0])
                    self.assertEqual({has_post_ring(own) for own in family}, {not free})
                    if kind == "post":
                        self.assertEqual(sorted(hole_by_words(yard, own) for own in family) == holes, free)
                    else:
                        self.assertIs(free, False)
            free = [own for own in families(yard, "post") if not has_post_ring(own)]
            self.assertEqual(free_families(yard), free)
            self.assertEqual(len(free), free_many(yard))

    def test_free_ones_alone(self):
        # Of all YARDS with few enough FLOORS this one alone has families of POSTS that are SHUT.
        every, free = families(BOX, "post"), free_families(BOX)
        self.assertEqual((len(every), len(free)), (192 + 4, 192))
        for own in every:
            self.assertEqual(own in free, how_many_standings(BOX, own) == 9)

    def test_about_two_thousand(self):
        # Of all YARDS these numbers, 1,732 and 2,080 for POSTS, 464 and 2,084 for PLOTS, are the next ones to 2,000.
        few = [yard for yard in small_yards(4) if len(yard) == 4]
        for yard in few:
            many = sum(how_many(yard, own) for own in all_places(yard) if kind_by_words(own) == "post")
            self.assertTrue(many == 1732 or many >= 2080)
            for function, args in ((families, (yard, "post")), (free_families, (yard,))):
                if many > 2000:
                    self.assertRaises(TooMany, function, *args)
            self.assertGreater(len(families(yard, "plot")), 0)
        tee, bay = ((0, 0), (0, 1), (0, 2), (1, 1)), ((0, 0), (0, 1), (0, 2), (1, 0), (1, 1))
        self.assertEqual(sum(how_many(tee, own) for own in all_places(tee) if own[0] % 2 == 0), 2080)
        self.assertRaises(TooMany, families, tee, "post")
        self.assertRaises(TooMany, free_families, tee)
        self.assertEqual(sum(how_many(bay, own) for own in all_places(bay) if own[0] % 2 == 1), 2084)
        self.assertRaises(TooMany, families, bay, "plot")
        for yard in GREAT + (ARCH, NINE, OBLONG):
            self.assertRaises(TooMany, families, yard, "post")
            self.assertRaises(TooMany, families, yard, "plot")
            self.assertRaises(TooMany, free_families, yard)
            self.assertRaises(Unfit, families, yard, "rail")

    def test_yards_of_forty(self):
        for yard in GREAT:
            for floor in sample_floors(yard, 16, 31):
                wanted = sorted((hole_by_words(yard, own), own) for own, _ in search(yard, floor))
                self.assertEqual(standings(yard, floor), wanted)
                self.assertEqual(how_many_standings(yard, floor), len(wanted))
                self.assertEqual(least_standing(yard, floor), min(own for _, own in wanted))
                place, last = wanted[-1]
                self.assertEqual(standing_at(yard, floor, place), last)
                self.assertIs(are_of_one(yard, last, floor), True)
                self.assertIs(is_standing(yard, last, floor), True)

    def test_no_slide_leads_away(self):
        for yard, floor in ((ONE, nested(1)), (BOX, nested(2)), (NINE, nested(3, (1,)))):
            hole = hole_by_words(yard, floor)
            self.assertEqual(standings(yard, floor), [(hole, floor)])
            self.assertEqual(how_many_standings(yard, floor), 1)
            self.assertEqual(least_standing(yard, floor), floor)
            for place in all_places(yard):
                if place != hole:
                    self.assertRaises(CanNot, standing_at, yard, floor, place)

    def test_things(self):
        far = standing_at(ONE, START, (2, 0))
        bent = no_floors(ONE, START) + no_floors(ONE, far) + no_floors(TWO, sample_floors(TWO)[0])
        for thing in NEVER + bent + ((), (START,), as_lists(START), list(START), as_lists(far)):
            self.assertIs(is_standing(ONE, START, thing), False, thing)
        for at in range(len(far)):
            place, rail = far[at]
            for couple in ([place, rail], (list(place), rail), (place, list(rail)), (place, rail, rail)):
                self.assertIs(is_standing(ONE, START, far[:at] + (couple,) + far[at + 1:]), False)
        self.assertEqual(far[0], ((0, 0), (0, 1)))
        self.assertIs(is_standing(ONE, START, (((0, 0), (0, True)),) + far[1:]), False)
        self.assertIs(is_standing(ONE, START, (((False, 0), (0, 1)),) + far[1:]), False)
        self.assertIs(is_standing(ONE, START, far), True)

    def test_no_place(self):
        for place in sorted(cells_by_squares(ONE)[1]) + [(3, 3), (-1, 0), (-2, -2), (0, 99), (10 ** 6, 0)]:
            self.assertEqual(outcome(standing_at, (ONE, START, list(place))), f"raises NoPlace(place={place})")
        self.assertRaises(CanNot, standing_at, ONE, START, (1, 1))

    def test_unfit(self):
        bent = no_floors(ONE, START) + ((), ONE, sample_floors(TWO)[0])
        for function in BY_FLOOR:
            check_never(self, function, (ONE, START), 0, Unfit, BAD_YARDS)
            check_never(self, function, (ONE, START), 1, Unfit, bent)
        for place in ((0, 2), (1, 1), (1, 0)):
            check_never(self, standing_at, (ONE, START, place), 0, Unfit, BAD_YARDS)
            check_never(self, standing_at, (ONE, START, place), 1, Unfit, bent)
        check_never(self, standing_at, (ONE, START, (0, 0)), 2, Unfit, ((), START[0]))
        check_never(self, is_standing, (ONE, START, None), 0, Unfit, BAD_YARDS)
        check_never(self, is_standing, (ONE, START, None), 1, Unfit, bent)
        check_never(self, are_of_one, (ONE, START, START), 0, Unfit, BAD_YARDS)
        for at in (1, 2):
            check_never(self, are_of_one, (ONE, START, START), at, Unfit, bent)
        # The number of FLOORS is told behind what is unfit.
        for yard in (ONE, BLOCK40):
            check_never(self, families, (yard, "post"), 1, Unfit, ("", "Post", ["post"], "posts", "rail"))
        check_never(self, families, (ONE, "post"), 0, Unfit, BAD_YARDS)
        check_never(self, free_families, (ONE,), 0, Unfit, BAD_YARDS)

    def test_forms(self):
        for yard in (ONE, TWO, BEND, FAR):
            for kind in ("post", "plot"):
                check_calls(self, families, ("yard", "kind"), (yard, kind))
            check_calls(self, free_families, ("yard",), (yard,))
            some = sample_floors(yard, 17, 3)
            for floor in some:
                for function in BY_FLOOR:
                    check_calls(self, function, ("yard", "floor"), (yard, floor))
                for place in all_places(yard) + [(1, 0)]:
                    check_calls(self, standing_at, ("yard", "floor", "place"), (yard, floor, place))
                for other in some:
                    check_calls(self, are_of_one, ("yard", "floor", "other"), (yard, floor, other))
                self.assertIs(is_standing(thing=floor, floor=as_lists(floor), yard=as_lists(yard)), True)
        check_calls(self, families, ("yard", "kind"), (BLOCK40, "post"))
        check_calls(self, free_families, ("yard",), (NINE,))


if __name__ == "__main__":
    unittest.main()
