import random
import unittest
from itertools import combinations

from holefloors import held as module
from holefloors.alike import can_lead
from holefloors.arrows import never_moved, tree
from holefloors.counts import free_many, how_many
from holefloors.errors import CanNot, NoPlace, TooMany, Unfit
from holefloors.floors import is_floor
from holefloors.held import all_stills, floor_by, floors_by, free_lots, is_still, is_why_no_still, kind_left, left
from holefloors.held import lots_of_size, rails_left, why_no_still
from holefloors.lots import standings
from tests.support import ARCH, BAD_YARDS, BEND, BLOCK40, BOX, COMB, CROSS, FAR, NEVER, NINE, OBLONG, ONE, ROW40
from tests.support import SNAKE40, STAIRS, TWO, all_places, as_lists, cells_by_squares, check_calls, check_never
from tests.support import couples_by_words, every_floor, grown, half_lists, has_post_ring, hole_by_words, is_beside
from tests.support import kind_by_words, nested, outcome, pointed, run_examples, sample_floors, search, small_yards
from tests.support import still_by_search

EXAMPLES = '''
    >>> one, pair = ((0, 0),), ((0, 0), (1, 0))
    >>> all_stills(one, "post"), left(one, (((1, 1), (1, 0)),)), rails_left(one, (((1, 1), (1, 0)),))
    ([(((1, 1), (0, 1)),), (((1, 1), (1, 0)),), (((1, 1), (1, 2)),), (((1, 1), (2, 1)),)], ((0, 0), (0, 2), (2, 0), (2, 2)), ((0, 1), (1, 2), (2, 1)))
    >>> floor_by(one, (((1, 1), (1, 0)),), (2, 0)), len(floors_by(one, (((1, 1), (1, 0)),))), len(all_stills(one, "plot")), free_lots(pair)
    ((((0, 0), (0, 1)), ((0, 2), (1, 2)), ((1, 1), (1, 0)), ((2, 2), (2, 1))), 4, 2, 15)
    >>> [lots_of_size(pair, "plot", own) for own in range(4)], lots_of_size(pair, "post", 6), kind_left(one, all_stills(one, "plot")[0])
    ([0, 12, 2, 0], 15, 'plot')
    >>> east, north, part = ((0, 0), (1, 0)), ((0, 0), (0, 1)), ((1, 1), (1, 0))
    >>> why_no_still(one, (part, ((2, 0), (2, 1)))), is_why_no_still(one, (north, east), ("twice", (0, 0))), [is_still(one, own) for own in ((part,), (), (east, part))]
    (('comes', (2, 0), (2, 1)), True, [True, False, False])
    >>> is_why_no_still(one, (), ("kinds", (0, 0), (1, 1))), is_why_no_still(one, (), ("kinds", (1, 1), (0, 0))), is_why_no_still(one, (part,), ("comes", (1, 1), (1, 0)))
    (True, False, False)
    >>> floor_by(one, (part,), (1, 1))
    raises CanNot()
    >>> left(one, (east,))
    raises Unfit()
    >>> why_no_still(one, (part,))
    raises CanNot()
'''
PART = ((1, 1), (1, 0))
BY_STILL = (left, rails_left, kind_left, floors_by)
WORDS = ("twice", "kinds", "loose", "apart", "comes")
SEVERAL = (ONE, TWO, ((0, 0), (0, 1)), BEND, FAR, ((0, 0), (1, 0), (2, 0)), BOX)
GREAT = (ROW40, BLOCK40, SNAKE40, grown(40, 111))


def stills_by_search(yard, kind):
    """All STILLS of a kind, each with the FLOORS from which it never moves, by their HOLES."""
    found = {}
    for floor in every_floor(yard):
        hole = hole_by_words(yard, floor)
        if kind_by_words(hole) == kind:
            found.setdefault(still_by_search(yard, floor), []).append((hole, floor))
    return {still: sorted(own) for still, own in sorted(found.items())}


def left_by_words(yard, couples):
    taken = {cell for couple in couples for cell in couple}
    return [cell for cell in sorted(set().union(*cells_by_squares(yard))) if cell not in taken]


def what(cell):
    return "rail" if (cell[0] + cell[1]) % 2 else kind_by_words(cell)


def reasons_by_words(yard, couples):
    """All REASONS why couples are no STILL, each kind of them as the document tells it."""
    own = left_by_words(yard, couples)
    places = [cell for cell in own if what(cell) != "rail"]
    rails = [cell for cell in own if what(cell) == "rail"]
    found = set()
    for first, second in combinations(couples, 2):
        found |= {("twice", cell) for cell in first if cell in second}
    lot = {place: {place} for place in places}
    for rail in rails:
        for kind in ("post", "plot"):
            ends = [place for place in places if what(place) == kind and is_beside(place, rail)]
            if len(ends) == 2:
                both = lot[ends[0]] | lot[ends[1]]
                for place in both:
                    lot[place] = both
            else:
                found |= {("loose", place, rail) for place in places if what(place) == kind}
    for place in places:
        for other in places:
            if what(place) == "post" and what(other) == "plot":
                found.add(("kinds", place, other))
            if place < other and what(place) == what(other) and other not in lot[place]:
                found.add(("apart", place, other))
    found |= {("comes",) + couple for couple in couples if pointed(couple) in places}
    return found


def nearly_stills(yard, chance, many):
    """Sets of COUPLES by chance: STILLS with a COUPLE more, less or other, parts of FLOORS, any."""
    every = couples_by_words(yard)
    found = [(), tuple(every)]
    for floor in sample_floors(yard, chance.randrange(10 ** 6), 3)[:many]:
        still = still_by_search(yard, floor)
        found += [still, floor, floor[:len(floor) // 2], tuple(sorted(chance.sample(floor, len(floor) * 2 // 3)))]
        found += [tuple(own for own in floor if own not in still)]
        for _ in range(3):
            couple = chance.choice(every)
            found.append(tuple(sorted(set(still) | {couple})))
            found.append(tuple(sorted(set(still) - {couple, chance.choice(floor)})))
            if still:
                gone = chance.choice(still)
                found.append(tuple(sorted(set(still) - {gone} | {couple})))
                found.append(tuple(own for own in still if own != gone))
        found.append(tuple(sorted(chance.sample(every, chance.randrange(len(every) // 2)))))
    return found


class HeldTest(unittest.TestCase):
    def test_examples(self):
        run_examples(self, EXAMPLES, vars(module))

    def test_all_stills_beside_all_floors(self):
        for yard in SEVERAL:
            for kind in ("post", "plot"):
                wanted = stills_by_search(yard, kind)
                told = all_stills(yard, kind)
                self.assertEqual(told, list(wanted))
                self.assertIs(type(told), list)
                sizes = [len(own) for own in wanted.values()]
                for number in list(range(-1, max(sizes) + 3)) + [10 ** 6]:
                    self.assertEqual(lots_of_size(yard, kind, number), sizes.count(number))
                for still, own in list(wanted.items())[::3]:
                    self.check_still(yard, still, kind, own)
            free = [still for still, own in stills_by_search(yard, "post").items() if not has_post_ring(own[0][1])]
            self.assertEqual(free_lots(yard), len(free))
            posts = len(cells_by_squares(yard)[0])
            self.assertEqual(free_lots(yard), lots_of_size(yard, "post", posts))

    def check_still(self, yard, still, kind, own):
        """own: the pairs (hole, floor) of all FLOORS from which still never moves."""
        holes = tuple(hole for hole, _ in own)
        self.assertIs(is_still(yard, still), True)
        self.assertEqual(left(yard, still), holes)
        self.assertEqual(kind_left(yard, still), kind)
        rails = tuple(cell for cell in left_by_words(yard, still) if what(cell) == "rail")
        self.assertEqual(rails_left(yard, still), rails)
        self.assertEqual(len(rails), len(holes) - 1)
        told = floors_by(yard, still)
        self.assertEqual(told, [floor for _, floor in own])
        self.assertIs(type(told), list)
        for place in all_places(yard):
            if place in holes:
                self.assertEqual(floor_by(yard, still, place), dict(own)[place])
            else:
                self.assertRaises(CanNot, floor_by, yard, still, place)
        self.assertRaises(CanNot, why_no_still, yard, still)

    def test_floors_lead_to_one_another(self):
        for at, yard in enumerate((ONE, TWO, BEND, FAR, BOX, STAIRS, CROSS, ARCH, OBLONG, COMB, NINE)):
            for floor in sample_floors(yard, 700 + at, 1 if len(yard) < 4 else 4):
                still = never_moved(yard, floor)
                own = sorted((hole_by_words(yard, other), other) for other, _ in search(yard, floor))
                self.check_still(yard, still, kind_by_words(own[0][0]), own)
                self.assertEqual(floors_by(yard, still), [other for _, other in standings(yard, floor)])
                for told in floors_by(yard, still)[:3]:
                    self.assertTrue(is_floor(yard, told))
                    self.assertEqual(never_moved(yard, told), still)
                    self.assertTrue(can_lead(yard, floor, told))
                self.assertEqual(left(yard, still), tree(yard, floor))

    def test_floors_that_nothing_moves(self):
        for yard, floor in ((ONE, nested(1)), (BOX, nested(2)), (NINE, nested(3, (2,)))):
            hole = hole_by_words(yard, floor)
            self.check_still(yard, floor, kind_by_words(hole), [(hole, floor)])

    def test_all_sets_of_one_square(self):
        every = couples_by_words(ONE)
        stills = set(stills_by_search(ONE, "post")) | set(stills_by_search(ONE, "plot"))
        met = set()
        for many in range(len(every) + 1):
            for couples in combinations(every, many):
                self.assertEqual(is_still(ONE, couples), couples in stills)
                if couples in stills:
                    self.assertRaises(CanNot, why_no_still, ONE, couples)
                else:
                    why = why_no_still(ONE, couples)
                    self.assertIs(is_why_no_still(ONE, couples, why), True)
                    met.add(why[0])
        self.assertEqual(len(stills), 6)
        self.assertEqual(met, {"twice", "kinds", "loose", "comes"})

    def test_reasons_judged(self):
        chance = random.Random(44)
        met, judged = set(), set()
        for yard in (ONE, TWO, BEND, FAR, BOX):
            cells = sorted(set().union(*cells_by_squares(yard)))
            for couples in nearly_stills(yard, chance, 3):
                wanted = reasons_by_words(yard, couples)
                self.assertIs(is_still(yard, couples), not wanted)
                if wanted:
                    why = why_no_still(yard, couples)
                    self.assertIn(why, wanted)
                    met.add(why[0])
                else:
                    self.assertRaises(CanNot, why_no_still, yard, couples)
                judged |= {own[0] for own in wanted}
                for cell in cells:
                    thing = ("twice", cell)
                    self.assertIs(is_why_no_still(yard, couples, thing), thing in wanted)
                for own in list(wanted)[::7]:
                    self.assertIs(is_why_no_still(yard, couples, own), True, own)
                for _ in range(150):
                    thing = (chance.choice(WORDS), chance.choice(cells), chance.choice(cells))
                    self.assertIs(is_why_no_still(yard, couples, thing), thing in wanted, thing)
                for couple in couples:
                    thing = ("comes",) + couple
                    self.assertIs(is_why_no_still(yard, couples, thing), thing in wanted, thing)
        self.assertEqual(judged, set(WORDS))

    def test_all_things_of_one_square(self):
        cells = sorted(set().union(*cells_by_squares(ONE)))
        every = couples_by_words(ONE)
        some = [(), (PART,), tuple(every), tuple(every[:2]), tuple(every[::3]), (every[0], every[-1]), nested(1)]
        for couples in some + [tuple(sorted((PART, own))) for own in every if own != PART]:
            wanted = reasons_by_words(ONE, couples)
            for word in WORDS + ("none",):
                for first in cells + [(3, 3)]:
                    self.assertIs(is_why_no_still(ONE, couples, (word, first)), (word, first) in wanted)
                    for second in cells + [(3, 3)]:
                        thing = (word, first, second)
                        self.assertIs(is_why_no_still(ONE, couples, thing), thing in wanted, (couples, thing))

    def test_each_kind_of_reason_told(self):
        chance = random.Random(45)
        met = {}
        for yard in (ONE, TWO, BEND, BOX, OBLONG):
            for _ in range(6):
                for couples in nearly_stills(yard, chance, 4):
                    if not is_still(yard, couples):
                        why = why_no_still(yard, couples)
                        self.assertIs(is_why_no_still(yard, couples, why), True)
                        met.setdefault(why[0], couples)
        # Each RAIL left joins two PLACES left of one kind: some go round, one in their midst hangs apart.
        for yard, many, kind, why in (
            (BOX, 2, "plot", ("apart", (0, 0), (2, 2))), (NINE, 3, "post", ("apart", (1, 1), (3, 3))),
        ):
            couples = tuple(own for own in nested(many) if what(own[0]) == kind)
            self.assertEqual(why_no_still(yard, couples)[0], "apart")
            self.assertIs(is_why_no_still(yard, couples, why_no_still(yard, couples)), True)
            self.assertIs(is_why_no_still(yard, couples, why), True)
            self.assertIs(is_why_no_still(yard, couples, (why[0], why[2], why[1])), False)
            self.assertEqual(reasons_by_words(yard, couples), {
                ("apart",) + tuple(sorted((why[2], place))) for place in left_by_words(yard, couples)
                if what(place) != "rail" and place != why[2]
            })
            met["apart"] = couples
        self.assertEqual(set(met), set(WORDS))

    def test_about_two_thousand(self):
        # Of all YARDS these numbers, 1,732 and 2,080 for POSTS, 464 and 2,084 for PLOTS, are the next ones to 2,000.
        self.assertEqual(len(all_stills(BOX, "post")), 196)
        self.assertEqual(lots_of_size(BOX, "post", 9), 192)
        self.assertEqual(lots_of_size(BOX, "post", 1), 4)
        row, tee = tuple((0, y) for y in range(4)), ((0, 0), (0, 1), (0, 2), (1, 1))
        bay = ((0, 0), (0, 1), (0, 2), (1, 0), (1, 1))
        self.assertEqual(sum(how_many(row, own) for own in all_places(row) if own[0] % 2), 464)
        self.assertEqual(sum(lots_of_size(row, "plot", own) * own for own in range(5)), 464)
        self.assertEqual(sum(len(left(row, still)) for still in all_stills(row, "plot")), 464)
        for yard, kind in ((tee, "post"), (bay, "plot"), (NINE, "post"), (OBLONG, "plot")):
            self.assertRaises(TooMany, all_stills, yard, kind)
            for number in (-1, 0, 6, 10 ** 6):
                self.assertRaises(TooMany, lots_of_size, yard, kind, number)
        for yard in GREAT:
            self.assertRaises(TooMany, all_stills, yard, "plot")
            self.assertRaises(TooMany, lots_of_size, yard, "post", 3)
            self.assertEqual(free_lots(yard), free_many(yard))

    def test_free_lots(self):
        for yard in small_yards(3) + [BOX, FAR]:
            corner = all_places(yard)[0]
            self.assertEqual(free_lots(yard), len([own for own in every_floor(yard) if hole_by_words(yard, own) == corner]))
        self.assertEqual(free_lots(BLOCK40), 2662079368040434932480)

    def test_yards_of_forty(self):
        chance = random.Random(46)
        for yard in GREAT:
            for floor in sample_floors(yard, 25, 37):
                still = never_moved(yard, floor)
                own = sorted((hole_by_words(yard, other), other) for other, _ in search(yard, floor))
                self.check_still(yard, still, kind_by_words(own[0][0]), own)
            for couples in nearly_stills(yard, chance, 2):
                if not is_still(yard, couples):
                    why = why_no_still(yard, couples)
                    self.assertIs(is_why_no_still(yard, couples, why), True)
                    self.assertRaises(Unfit, floors_by, yard, couples)

    def test_things(self):
        still = all_stills(TWO, "plot")[0]
        bad = NEVER + ((), list(still), as_lists(still), half_lists(still), still[::-1], still + still[-1:], still * 2)
        for thing in bad + (still[1:], still[0], (still,), still + (None,), (list(still[0]),) + still[1:]):
            self.assertIs(is_still(TWO, thing), False, thing)
        for thing in (PART, [PART], ([1, 1], [1, 0]), (((True, 1), (1, 0)),), (((1, 1), (True, 0)),)):
            self.assertIs(is_still(ONE, thing), False, thing)
        for thing in ((((1, 1), (1, False)),), (((3, 1), (3, 0)),), (((1, 0), (1, 1)),), (PART, PART), (PART + PART,)):
            self.assertIs(is_still(ONE, thing), False, thing)
        # A STILL, and beside it a COUPLE of another YARD, or what is no COUPLE at all.
        for other in (((5, 5), (5, 4)), ((9, 9), (9, 8)), ((3, 1), (4, 1)), ((2, 4), (2, 5)), ((7, 7), (7, 7))):
            self.assertIs(is_still(ONE, tuple(sorted((PART, other)))), False, other)
        self.assertIs(is_still(ONE, (PART,)), True)
        self.assertIs(is_still(TWO, still), True)

    def test_things_for_reasons(self):
        twice = (((0, 0), (0, 1)), ((0, 0), (1, 0)))
        some = NEVER + tuple((word, own) for word in WORDS for own in NEVER)
        some += tuple((word, (0, 0), own) for word in WORDS for own in NEVER)
        some += tuple((own, (0, 0), (1, 1)) for own in NEVER) + tuple((own, (0, 0)) for own in NEVER)
        for couples in ((), twice, (PART,), (PART, ((2, 0), (2, 1)))):
            for thing in some:
                self.assertIs(is_why_no_still(ONE, couples, thing), False, thing)
        for couples, thing in (
            (twice, ("twice", (0, 0))), ((), ("kinds", (0, 0), (1, 1))), ((), ("loose", (1, 1), (1, 0))),
            ((), ("kinds", (2, 2), (1, 1))), ((PART, ((2, 0), (2, 1))), ("comes", (2, 0), (2, 1))),
        ):
            self.assertIs(is_why_no_still(ONE, couples, thing), True)
            for bad in (
                list(thing), as_lists(thing), thing[:1] + (list(thing[1]),) + thing[2:], thing + thing[1:2],
                thing[:1] + tuple(own + (0,) for own in thing[1:]), thing[1:], thing[:1], (thing,), thing + (None,),
                thing[:1] + (thing[1:],), (thing[0].upper(),) + thing[1:], thing[::-1], thing[:-1] + (list(thing[-1]),),
            ):
                self.assertIs(is_why_no_still(ONE, couples, bad), False, bad)
        for bad in (("kinds", (0, 0), (True, 1)), ("kinds", (False, 0), (1, 1)), ("loose", (1, 1), (1, False))):
            self.assertIs(is_why_no_still(ONE, (), bad), False)
        self.assertIs(is_why_no_still(ONE, twice, ("twice", (0, False))), False)

    def test_order_of_errors(self):
        for place in sorted(cells_by_squares(ONE)[1]) + [(3, 3), (-1, 1), (-2, -2), (0, 99), (10 ** 6, 0)]:
            self.assertEqual(outcome(floor_by, (ONE, (PART,), list(place))), f"raises NoPlace(place={place})")
            self.assertRaises(Unfit, floor_by, ONE, (), place)
        self.assertRaises(CanNot, floor_by, ONE, (PART,), (1, 1))
        self.assertRaises(Unfit, floor_by, ONE, (PART,), (1, True))
        self.assertRaises(NoPlace, floor_by, ONE, (PART,), (1, 0))

    def test_unfit(self):
        every = couples_by_words(ONE)
        floor = every_floor(ONE)[0]
        no_sets = (
            (PART, ((9, 9), (9, 8))), (PART, PART), (PART, every[0]), PART, (PART + PART,), (PART, None), (((1, 0), (1, 1)),),
            (((3, 1), (3, 0)),), (((1, 1), (1, False)),), "ab",
        )
        no_stills = no_sets + ((), (every[0],), tuple(every), (every[0], PART), floor)
        for function, more in tuple((own, ()) for own in BY_STILL) + ((floor_by, ((0, 0),)), (floor_by, ((1, 0),))):
            check_never(self, function, (ONE, (PART,)) + more, 0, Unfit, BAD_YARDS)
            check_never(self, function, (ONE, (PART,)) + more, 1, Unfit, no_stills)
        check_never(self, floor_by, (ONE, (PART,), (0, 0)), 2, Unfit, ((), PART))
        for function, more in ((why_no_still, ()), (is_why_no_still, (None,))):
            for couples in ((), (PART,)):
                check_never(self, function, (ONE, couples) + more, 0, Unfit, BAD_YARDS)
                check_never(self, function, (ONE, couples) + more, 1, Unfit, no_sets)
        check_never(self, is_still, (ONE, (PART,)), 0, Unfit, BAD_YARDS)
        check_never(self, free_lots, (ONE,), 0, Unfit, BAD_YARDS)
        no_kinds = ("", "Post", ["post"], "rail")
        no_numbers = tuple(own for own in NEVER if own not in (-1, -7) or isinstance(own, bool)) + ((), "1", (1,), [1])
        for yard in (ONE, BLOCK40):
            check_never(self, all_stills, (yard, "post"), 1, Unfit, no_kinds)
            check_never(self, lots_of_size, (yard, "post", 1), 1, Unfit, no_kinds)
            for number in no_numbers:
                self.assertRaises(Unfit, lots_of_size, yard, "plot", number)
        check_never(self, all_stills, (ONE, "post"), 0, Unfit, BAD_YARDS)
        check_never(self, lots_of_size, (ONE, "post", 1), 0, Unfit, BAD_YARDS)

    def test_forms(self):
        for yard in (ONE, TWO, BEND, FAR):
            check_calls(self, free_lots, ("yard",), (yard,))
            for kind in ("post", "plot"):
                check_calls(self, all_stills, ("yard", "kind"), (yard, kind))
                for number in (1, 4):
                    check_calls(self, lots_of_size, ("yard", "kind", "number"), (yard, kind, number))
                for still in all_stills(yard, kind)[::9]:
                    for function in BY_STILL:
                        check_calls(self, function, ("yard", "still"), (yard, still))
                    for place in all_places(yard)[::3] + [(1, 0)]:
                        check_calls(self, floor_by, ("yard", "still", "place"), (yard, still, place))
                    for couples in (still, still[1:], ()):
                        check_calls(self, why_no_still, ("yard", "couples"), (yard, couples))
            self.assertIs(is_still(thing=all_stills(yard, "plot")[0], yard=as_lists(yard)), True)
        self.assertIs(is_why_no_still(thing=("kinds", (0, 0), (1, 1)), couples=[], yard=as_lists(ONE)), True)
        check_calls(self, all_stills, ("yard", "kind"), (BLOCK40, "plot"))


if __name__ == "__main__":
    unittest.main()
