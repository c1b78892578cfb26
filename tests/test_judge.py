import random
import unittest

from holefloors import judge as module
from holefloors.counts import how_many
from holefloors.errors import Unfit
from holefloors.judge import first_fallen, is_demand, is_paper_against, is_reason_for, is_so, paper_against, reason_for
from holefloors.tables import table_of
from tests.support import ARCH, BAD_YARDS, BEND, BLOCK40, BOX, COMB, CROSS, FAR, NEVER, NINE, ONE, ROW40, SNAKE40
from tests.support import STAIRS, TWO, all_places, as_lists, cells_by_squares, check_calls, check_never, deep
from tests.support import every_floor, floors_by_trying, grown, half_lists, has_post_ring, hole_by_words
from tests.support import holes_by_search, kind_by_words, nested, no_floors, outcome, pointed, rings_by_walk
from tests.support import run_examples, sample_floors, search, slides_by_words, still_by_search

EXAMPLES = '''
    >>> two, flat = ((0, 0), (1, 0)), (((0, 2), (0, 1)), ((1, 1), (1, 0)), ((2, 0), (2, 1)), ((2, 2), (1, 2)), ((3, 1), (3, 0)), ((4, 0), (4, 1)), ((4, 2), (3, 2)))
    >>> shut = (((0, 0), (0, 1)), ((0, 2), (1, 2)), ((2, 0), (1, 0)), ((2, 2), (2, 1)), ((3, 1), (3, 0)), ((4, 0), (4, 1)), ((4, 2), (3, 2)))
    >>> is_so(("free", two, flat)), is_reason_for(("free", two, flat), ()), is_so(("free", two, shut)), paper_against(("free", two, shut))
    (True, True, False, ((0, 0), (0, 2), (2, 2), (2, 0)))
    >>> is_so(("come", two, flat, (4, 0))), is_so(("come", two, flat, (1, 1))), paper_against(("come", two, flat, (1, 1))), paper_against(("come", two, shut, (4, 0)))
    (True, False, ((1, 1),), ((4, 0), (4, 2), (2, 2), (2, 0), (0, 0), (0, 2)))
    >>> is_so(("fewest", two, flat, (4, 0), 4)), paper_against(("fewest", two, flat, (4, 0), 3)), is_reason_for(("fewest", two, flat, (0, 2), 1), ((0, 2),))
    (True, ((0, 2), (2, 2), (4, 2), (4, 0)), True)
    >>> later = (((0, 0), (0, 1)), ((1, 1), (1, 0)), ((2, 0), (2, 1)), ((2, 2), (1, 2)), ((3, 1), (3, 0)), ((4, 0), (4, 1)), ((4, 2), (3, 2)))
    >>> is_so(("apart", two, flat, later)), is_paper_against(("apart", two, flat, later), ((0, 2), (2, 2), (0, 2))), reason_for(("apart", two, flat, shut))
    (False, True, ((1, 1), (1, 0)))
    >>> is_so(("many", two, (0, 0), 15)), paper_against(("many", two, (0, 0), 14)), is_demand(("fewest", two, shut, (4, 0), 9)), first_fallen((("free", two, flat), ("free", two, shut)))
    (True, 15, False, 1)
'''
FLAT = (
    ((0, 2), (0, 1)), ((1, 1), (1, 0)), ((2, 0), (2, 1)), ((2, 2), (1, 2)), ((3, 1), (3, 0)), ((4, 0), (4, 1)),
    ((4, 2), (3, 2)),
)
WORDS = ("free", "come", "fewest", "apart", "many")
ALL = (is_so, paper_against, reason_for)
GREAT = (ROW40, BLOCK40, SNAKE40, grown(40, 181))


def stands_by_words(demand):
    """Whether a DEMAND stands, by plain searches and counts."""
    word, yard, told = demand[0], demand[1], demand[2]
    if word == "free":
        return kind_by_words(hole_by_words(yard, told)) == "post" and not has_post_ring(told)
    if word == "come":
        return demand[3] in holes_by_search(yard, told)
    if word == "fewest":
        return len(holes_by_search(yard, told)[demand[3]]) <= demand[4]
    if word == "apart":
        return demand[3] not in dict(search(yard, told))
    many = len(floors_by_trying(yard, told)) if len(yard) < 5 else how_many(yard, told)
    return many <= demand[3]


def leads_to(yard, floor, plan):
    """The FLOOR behind a PLAN, SLIDE by SLIDE; None if it can not be done."""
    here = floor
    for place in plan:
        after = dict(slides_by_words(yard, here))
        if place not in after:
            return None
        here = after[place]
    return here


def comes_to(yard, floor, plan):
    end = leads_to(yard, floor, plan)
    return None if end is None else hole_by_words(yard, end)


def rim_by_words(yard):
    return [
        (x, y) for x, y in cells_by_squares(yard)[0]
        if not {(x + a, y + b) for a in (-1, 1) for b in (-1, 1)} <= cells_by_squares(yard)[2]
    ]


def way_on(floor, place):
    """The PLACES from one on, arrow by arrow, as long as none comes twice."""
    to = {own: pointed((own, rail)) for own, rail in floor}
    way = [place]
    every = {own for own, _ in floor}
    while way[-1] in to and to[way[-1]] in every and to[way[-1]] not in way:
        way.append(to[way[-1]])
    return tuple(way)


def is_paper_by_words(demand, thing):
    """Whether thing, of the right form, is a PAPER against a DEMAND."""
    word, yard, told = demand[0], demand[1], demand[2]
    if stands_by_words(demand):
        return False
    if word == "free":
        return thing in rings_by_walk(told) and kind_by_words(thing[0]) == "post"
    if word == "come":
        return thing == way_on(told, demand[3])
    if word == "fewest":
        return thing == holes_by_search(yard, told)[demand[3]]
    if word == "apart":
        return leads_to(yard, told, thing) == demand[3]
    return thing == how_many(yard, told)


def is_reason_by_words(demand, thing):
    word, yard, told = demand[0], demand[1], demand[2]
    if not stands_by_words(demand):
        return False
    if word == "free":
        return comes_to(yard, told, thing) in rim_by_words(yard)
    if word in ("come", "fewest"):
        return comes_to(yard, told, thing) == demand[3] and (word == "come" or len(thing) <= demand[4])
    if word == "apart":
        return thing in still_by_search(yard, told) and thing not in demand[3]
    return thing == table_of(yard, told, "post")


def demands_of(yard, floor, others):
    """DEMANDS of all words about a FLOOR and some others, of which some stand."""
    found = [("free", yard, floor)]
    reached = holes_by_search(yard, floor)
    for place in all_places(yard):
        found.append(("come", yard, floor, place))
    for place, plan in reached.items():
        found += [("fewest", yard, floor, place, number) for number in {0, max(0, len(plan) - 1), len(plan), len(plan) + 2}]
    for other in others:
        found.append(("apart", yard, floor, other))
    hole = hole_by_words(yard, floor)
    many = len(floors_by_trying(yard, hole)) if len(yard) < 5 else how_many(yard, hole)
    return found + [("many", yard, hole, number) for number in (0, max(0, many - 1), many, many + 1, 10 ** 40)]


def plans_from(yard, floor, chance):
    """PLANS by chance, a few of them with a fault."""
    found = [()]
    for _ in range(4):
        here, plan = floor, ()
        for _ in range(chance.randrange(8)):
            after = slides_by_words(yard, here)
            if after:
                place, here = chance.choice(after)
                plan += (place,)
        found += [plan, plan[1:], plan + (chance.choice(all_places(yard)),)]
    return found


class JudgeTest(unittest.TestCase):
    def test_examples(self):
        run_examples(self, EXAMPLES, vars(module))

    def check(self, demand, things=()):
        """A DEMAND judged; there is a PAPER against it or a REASON for it, never both."""
        stands = stands_by_words(demand)
        self.assertIs(is_demand(demand), True, demand)
        self.assertIs(is_so(demand), stands, demand)
        paper, reason = paper_against(demand), reason_for(demand)
        if stands:
            self.assertIsNone(paper, demand)
            self.assertTrue(is_reason_by_words(demand, reason), (demand, reason))
        else:
            self.assertIsNone(reason, demand)
            self.assertTrue(is_paper_by_words(demand, paper), (demand, paper))
        self.assertIs(is_paper_against(demand, paper), not stands)
        self.assertIs(is_reason_for(demand, reason), stands)
        for thing in things:
            self.assertIs(is_paper_against(demand, thing), is_paper_by_words(demand, thing), (demand, thing))
            self.assertIs(is_reason_for(demand, thing), is_reason_by_words(demand, thing), (demand, thing))

    def test_small_yards(self):
        chance = random.Random(121)
        met = set()
        for yard, floors in (
            (ONE, every_floor(ONE)), (TWO, every_floor(TWO)[::9]), (BEND, every_floor(BEND)[::60]),
            (FAR, every_floor(FAR)[5::140]), (BOX, every_floor(BOX)[::350]), (BOX, [nested(2)]),
        ):
            every = every_floor(yard)
            for floor in floors:
                others = chance.sample(every, 4) + [own for own, _ in search(yard, floor)][-2:] + [floor]
                plans = plans_from(yard, floor, chance)
                for demand in demands_of(yard, floor, others):
                    self.check(demand, self.things(demand, plans, chance))
                    met.add((demand[0], stands_by_words(demand)))
        self.assertEqual(met, {(word, stands) for word in WORDS for stands in (True, False)})

    def things(self, demand, plans, chance):
        word, yard, told = demand[0], demand[1], demand[2]
        if word == "many":
            return [0, 1, demand[3], how_many(yard, told), table_of(yard, told, "post"), table_of(yard, told, "plot")]
        found = chance.sample(plans, 4) + [()]
        if word == "free":
            found += rings_by_walk(told) + [ring[::-1] for ring in rings_by_walk(told)]
        if word == "apart":
            return [(), told[0]] + chance.sample(plans, 3) if stands_by_words(demand) else found
        return found + [way_on(told, chance.choice(all_places(yard)))]

    def test_some_yards(self):
        chance = random.Random(122)
        for yard in (ARCH, STAIRS, CROSS, COMB, NINE):
            for floor in sample_floors(yard, 34, 9) + ([nested(3)] if yard == NINE else []):
                others = sample_floors(yard, 35, 9)[:2] + [own for own, _ in search(yard, floor)][-1:]
                for demand in chance.sample(demands_of(yard, floor, others), 9):
                    self.check(demand)

    def test_great_yards(self):
        for yard in GREAT:
            for floor in sample_floors(yard, 36, 60):
                hole = hole_by_words(yard, floor)
                ways = holes_by_search(yard, floor)
                place, plan = list(ways.items())[-1]
                for demand in (
                    ("free", yard, floor), ("come", yard, floor, place), ("come", yard, floor, all_places(yard)[0]),
                    ("come", yard, floor, all_places(yard)[-1]), ("fewest", yard, floor, place, len(plan)),
                    ("apart", yard, floor, sample_floors(yard, 37, 60)[0]), ("apart", yard, floor, list(search(yard, floor))[-1][0]),
                    ("many", yard, hole, how_many(yard, hole)), ("many", yard, hole, how_many(yard, hole) - 1),
                ) + ((("fewest", yard, floor, place, len(plan) - 1),) if plan else ()):
                    self.check(demand)

    def test_each_ring_is_a_paper(self):
        for floor in (nested(3), nested(3, (1, 3)), nested(3, (2,))):
            demand = ("free", NINE, floor)
            every = rings_by_walk(floor)
            self.assertEqual(len(every), 3)
            for ring in every:
                self.assertIs(is_paper_against(demand, ring), kind_by_words(ring[0]) == "post")
                for bad in (ring[::-1], ring[1:] + ring[:1], ring[:-1], list(ring)):
                    self.assertIs(is_paper_against(demand, bad), False)

    def test_long_plans(self):
        floor = ((0, 2), (0, 1)), ((1, 1), (1, 0)), ((2, 0), (2, 1)), ((2, 2), (1, 2))
        plan = ((0, 2), (0, 0)) * 40000
        self.assertIs(is_reason_for(("free", ONE, floor), plan), True)
        self.assertIs(is_reason_for(("come", ONE, floor, (0, 0)), plan), True)
        self.assertIs(is_reason_for(("come", ONE, floor, (0, 0)), plan + ((0, 2),)), False)
        self.assertIs(is_reason_for(("fewest", ONE, floor, (0, 0), 80000), plan), True)
        self.assertIs(is_reason_for(("fewest", ONE, floor, (0, 0), 79999), plan), False)
        self.assertIs(is_paper_against(("apart", ONE, floor, floor), plan), True)
        self.assertIs(is_paper_against(("apart", ONE, floor, floor), plan[1:]), False)

    def test_demands(self):
        shut = nested(1)
        for demand in (
            ("free", ONE, shut), ("come", ONE, shut, (0, 0)), ("fewest", ONE, shut, (1, 1), 0), ("apart", ONE, shut, shut),
            ("many", ONE, (1, 1), 0), ("many", ONE, (0, 2), 10 ** 40), ("fewest", TWO, FLAT, (4, 0), 10 ** 50),
        ):
            self.assertIs(is_demand(demand), True, demand)
            parts = list(range(len(demand)))
            bad = [list(demand), as_lists(demand), half_lists(demand), demand[:-1], demand + (0,), demand[1:], (demand,)]
            bad += [demand[:at] + demand[at + 1:] for at in parts] + [demand + demand, demand[::-1]]
            bad += [("none",) + demand[1:], (demand[0].upper(),) + demand[1:], ([demand[0]],) + demand[1:]]
            bad += [(demand[0], BEND) + demand[2:]] if demand[0] != "many" else [(demand[0], (), *demand[2:])]
            for at in parts:
                for other in NEVER + ((), (1, 0), (3, 3), (9, 9), (0, True), -1):
                    if not (demand[0] in ("fewest", "many") and at == parts[-1] and type(other) is int and other >= 0):
                        bad.append(demand[:at] + (other,) + demand[at + 1:])
                if isinstance(demand[at], tuple):
                    bad.append(demand[:at] + (list(demand[at]),) + demand[at + 1:])
            for yard in BAD_YARDS:
                bad.append((demand[0], yard) + demand[2:])
            for thing in bad:
                self.assertIs(is_demand(thing), False, thing)
        for floor in no_floors(TWO, FLAT):
            for demand in (("free", TWO, floor), ("come", TWO, floor, (0, 0)), ("apart", TWO, FLAT, floor), ("apart", TWO, floor, FLAT)):
                self.assertIs(is_demand(demand), False)
                self.assertRaises(Unfit, is_so, demand)
        # The PLACE of "fewest" is one of the TREE; a number is from 0.
        for place in ((1, 1), (3, 1), (1, 0), (8, 8)):
            self.assertIs(is_demand(("fewest", TWO, FLAT, place, 9)), False)
        for number in (-1, True, False, None, "1", (1,), 1.0):
            self.assertIs(is_demand(("fewest", TWO, FLAT, (4, 0), number)), False)
            self.assertIs(is_demand(("many", TWO, (0, 0), number)), False)
        self.assertIs(is_demand(("many", TWO, (1, 0), 5)), False)

    def test_unfit(self):
        good = ("free", TWO, FLAT)
        bad = ((), ("free",), ("free", TWO), good + (0,), ("Free",) + good[1:], good[::-1], (good,), ("come", TWO, FLAT, (1, 0)),
               ("many", TWO, (0, 0), -1), ("fewest", TWO, FLAT, (1, 1), 3), ("apart", TWO, FLAT, FLAT[1:]), ("", TWO, FLAT),
               ("many", TWO, (0, 0), True), {0: "free"}, (("free",), TWO, FLAT), (None, TWO, FLAT))
        for function in ALL:
            check_never(self, function, (good,), 0, Unfit, bad)
        for function in (is_paper_against, is_reason_for):
            for thing in (None, (), ((0, 2),)):
                check_never(self, function, (good, thing), 0, Unfit, bad)
        no_demands = tuple(own for own in bad if own not in ((), (good,)))
        check_never(self, first_fallen, ((good,),), 0, Unfit, no_demands + ((good, None), (good, ()), ("free",), good))
        fallen = ("free", TWO, nested_two())
        # What is no DEMAND is told ahead of the first that does not stand.
        for told in ((fallen, None), (None, fallen), (fallen, ()), (good, fallen, good[:2])):
            self.assertRaises(Unfit, first_fallen, told)

    def test_first_fallen(self):
        chance = random.Random(123)
        floors = every_floor(TWO)
        for _ in range(60):
            demands = []
            for floor in chance.sample(floors, chance.randrange(6)):
                demands.append(chance.choice(demands_of(TWO, floor, (floors[0], floor))))
            fallen = [at for at, demand in enumerate(demands) if not stands_by_words(demand)]
            for form in (tuple, list, as_lists):
                self.assertEqual(first_fallen(form(demands)), fallen[0] if fallen else None)
        self.assertIsNone(first_fallen(()))
        self.assertIsNone(first_fallen([]))

    def test_things(self):
        shut, start = nested_two(), FLAT
        some = NEVER + (deep(19), [], [(0, 2)], [[0, 2]], ((0, 2), None), ((True, 1),), ("free",), -(10 ** 60), 10 ** 60)
        cases = (
            (("free", TWO, start), is_reason_for, ((0, 2),)), (("free", TWO, shut), is_paper_against, None),
            (("come", TWO, start, (4, 0)), is_reason_for, None), (("come", TWO, start, (1, 1)), is_paper_against, ((1, 1),)),
            (("fewest", TWO, start, (4, 0), 5), is_reason_for, None), (("fewest", TWO, start, (4, 0), 3), is_paper_against, None),
            (("apart", TWO, start, shut), is_reason_for, None), (("apart", TWO, start, search(TWO, start)[-1][0]), is_paper_against, None),
            (("many", TWO, (1, 1), 8), is_reason_for, None), (("many", TWO, (0, 0), 7), is_paper_against, 15),
        )
        for demand, judge, thing in cases:
            if thing is None:
                thing = reason_for(demand) if judge == is_reason_for else paper_against(demand)
            self.assertIs(judge(demand, thing), True, demand)
            self.assertIs(judge(as_lists(demand), thing), True, demand)
            other = is_paper_against if judge == is_reason_for else is_reason_for
            self.assertIs(other(demand, thing), False)
            bad = some
            if isinstance(thing, tuple):
                bad += (list(thing), as_lists(thing), half_lists(thing), (list(thing[0]),) + thing[1:], (thing,), thing + (None,))
                bad += ((thing[0] + (0,),) + thing[1:], thing + (thing,), str(thing), thing[0])
            for own in bad:
                self.assertIs(judge(demand, own), False, (demand, own))
                self.assertIs(other(demand, own), False, (demand, own))
        self.assertIs(is_paper_against(("many", ONE, (1, 1), 0), True), False)
        self.assertIs(is_paper_against(("many", ONE, (1, 1), 1), 2), True)
        self.assertIs(is_paper_against(("many", ONE, (1, 1), 2), 2), False)

    def test_truth_values_in_tables(self):
        demand = ("many", ONE, (1, 1), 2)
        table = reason_for(demand)
        self.assertEqual(table, table_of(ONE, (1, 1), "post"))
        for at in range(4):
            for to in range(4):
                for other in (True, False, None, 5, (1,), -table[at][to] - 9):
                    row = table[at][:to] + (other,) + table[at][to + 1:]
                    self.assertIs(is_reason_for(demand, table[:at] + (row,) + table[at + 1:]), False)
            self.assertIs(is_reason_for(demand, table[:at] + (list(table[at]),) + table[at + 1:]), False)
            self.assertIs(is_reason_for(demand, table[:at] + table[at + 1:]), False)
        self.assertIs(is_reason_for(demand, table), True)
        self.assertIs(is_reason_for(demand, table_of(ONE, (1, 1), "plot")), False)
        # HOLE at a POST: the TABLE without the HOLE.
        self.assertEqual(len(reason_for(("many", ONE, (0, 0), 4))), 3)

    def test_ways_of_come(self):
        # Out at once, out behind some PLACES, to a RING, of a RING.
        for yard in (TWO, BEND, BOX, COMB):
            for floor in sample_floors(yard, 38, 2):
                for place in all_places(yard):
                    demand = ("come", yard, floor, place)
                    self.assertEqual(paper_against(demand), None if is_so(demand) else way_on(floor, place))

    def test_forms(self):
        for yard in (ONE, TWO, BEND):
            for floor in sample_floors(yard, 39, 4):
                demands = demands_of(yard, floor, (sample_floors(yard, 40, 4)[0], floor))
                for demand in demands[::3] + [demands[0][:2]]:
                    for function in ALL:
                        check_calls(self, function, ("demand",), (demand,))
                    for thing in (None, (), ((0, 2),), 4, floor[0]):
                        for function in (is_paper_against, is_reason_for):
                            check_calls(self, function, ("demand", "thing"), (demand, thing))
                check_calls(self, first_fallen, ("demands",), (tuple(demands),))
        self.assertEqual(outcome(is_demand, named={"thing": ("free", ONE, nested(1))}), "True")


def nested_two():
    """A FLOOR of two SQUARES with its HOLE at a PLOT."""
    return [floor for floor in every_floor(TWO) if hole_by_words(TWO, floor) == (1, 1)][0]


if __name__ == "__main__":
    unittest.main()
