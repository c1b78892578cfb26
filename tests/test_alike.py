import random
import unittest

from holefloors import alike as module
from holefloors.alike import can_lead, is_lead, is_why_apart, lead_to, led_by_all, slides_apart, why_apart
from holefloors.arrows import never_moved, tree
from holefloors.errors import CanNot, Unfit
from holefloors.slides import behind
from tests.support import ARCH, BAD_YARDS, BEND, BLOCK40, BOX, COMB, CROSS, FAR, NEVER, NINE, OBLONG, ONE, ROW40
from tests.support import SNAKE40, STAIRS, TWO, all_places, as_lists, chance_floor, check_calls, check_never
from tests.support import couples_by_words, every_floor, grown, half_lists, hole_by_words, kind_by_words, nested
from tests.support import no_floors, run_examples, sample_floors, search, slides_by_words, still_by_search

EXAMPLES = '''
    >>> one = ((0, 0),)
    >>> begin, end = (((0, 2), (0, 1)), ((1, 1), (1, 0)), ((2, 0), (2, 1)), ((2, 2), (1, 2))), (((0, 0), (0, 1)), ((0, 2), (1, 2)), ((1, 1), (1, 0)), ((2, 2), (2, 1)))
    >>> can_lead(one, begin, end), lead_to(one, begin, end), lead_to(one, end, begin), slides_apart(one, begin, begin)
    (True, ((0, 2), (2, 2), (2, 0)), ((2, 2), (0, 2), (0, 0)), 0)
    >>> there = ((0, 2), (2, 2), (2, 0))
    >>> [is_lead(one, begin, end, own) for own in (there, ((0, 2), (0, 0)) + there, there[:2], (), [(0, 2), (2, 2), (2, 0)])], is_lead(one, begin, begin, ())
    ([True, True, False, False, False], True)
    >>> aside, round_so = (((0, 2), (0, 1)), ((1, 1), (1, 2)), ((2, 0), (1, 0)), ((2, 2), (2, 1))), (((0, 0), (0, 1)), ((0, 2), (1, 2)), ((2, 0), (1, 0)), ((2, 2), (2, 1)))
    >>> can_lead(one, begin, aside), why_apart(one, begin, aside), can_lead(one, round_so, begin), why_apart(one, begin, round_so)
    (False, ((1, 1), (1, 0)), False, ((1, 1), (1, 0)))
    >>> [is_why_apart(one, round_so, begin, own) for own in (((0, 0), (0, 1)), ((2, 0), (1, 0)), ((0, 2), (0, 1)), None)]
    [True, True, False, False]
    >>> led_by_all(one, begin, (aside, end, round_so, begin)), led_by_all(one, begin, ())
    ((1, 3), ())
    >>> lead_to(one, begin, aside)
    raises CanNot()
    >>> why_apart(one, begin, end)
    raises CanNot()
    >>> can_lead(one, begin, begin[:3])
    raises Unfit()
'''
BEGIN = (((0, 2), (0, 1)), ((1, 1), (1, 0)), ((2, 0), (2, 1)), ((2, 2), (1, 2)))
END = (((0, 0), (0, 1)), ((0, 2), (1, 2)), ((1, 1), (1, 0)), ((2, 2), (2, 1)))
ASIDE = (((0, 2), (0, 1)), ((1, 1), (1, 2)), ((2, 0), (1, 0)), ((2, 2), (2, 1)))
ROUND = (((0, 0), (0, 1)), ((0, 2), (1, 2)), ((2, 0), (1, 0)), ((2, 2), (2, 1)))
BY_TWO = (can_lead, lead_to, slides_apart, why_apart)
GREAT = (ROW40, BLOCK40, SNAKE40, grown(40, 101))


def pairs():
    """Triples (yard, floor, other) of which some lead to one another, some nearly do, some never."""
    chance = random.Random(33)
    found = [(ONE, floor, other) for floor in every_floor(ONE) for other in every_floor(ONE)]
    two = every_floor(TWO)
    found += [(TWO, chance.choice(two), chance.choice(two)) for _ in range(150)]
    for at, yard in enumerate((TWO, BEND, FAR, BOX, STAIRS, CROSS, ARCH, OBLONG, COMB, NINE)):
        for floor in sample_floors(yard, 600 + at, 2):
            reached = [own for own, _ in search(yard, floor)]
            found += [(yard, floor, chance.choice(reached)) for _ in range(3)]
            found.append((yard, floor, chance_floor(yard, chance.choice(all_places(yard)), chance)))
            found.append((yard, floor, chance_floor(yard, hole_by_words(yard, floor), chance)))
    return found + [(BOX, nested(2, own), nested(2, other)) for own in ((), (1,)) for other in ((), (1,), (2,))]


class AlikeTest(unittest.TestCase):
    def test_examples(self):
        run_examples(self, EXAMPLES, vars(module))

    def test_beside_a_plain_search(self):
        met = set()
        for yard, floor, other in pairs():
            plans = dict(search(yard, floor))
            leads = other in plans
            met.add(leads)
            self.assertIs(can_lead(yard, floor, other), leads)
            self.assertIs(can_lead(yard, other, floor), leads)
            self.assertEqual(led_by_all(yard, floor, (other, floor, other)), (0, 1, 2) if leads else (1,))
            if leads:
                self.check_leading(yard, floor, other, plans[other])
            else:
                self.check_apart(yard, floor, other)
        self.assertEqual(met, {True, False})

    def check_leading(self, yard, floor, other, plan):
        self.assertEqual(lead_to(yard, floor, other), plan)
        self.assertEqual(slides_apart(yard, floor, other), len(plan))
        self.assertEqual(behind(yard, floor, plan), other)
        self.assertIs(is_lead(yard, floor, other, plan), True)
        back = lead_to(yard, other, floor)
        self.assertEqual(back, (plan[-2::-1] + (hole_by_words(yard, floor),)) if plan else ())
        self.assertIs(is_lead(yard, floor, other, plan + back + plan), True)
        self.assertIs(is_lead(yard, floor, other, plan + back), floor == other)
        self.assertRaises(CanNot, why_apart, yard, floor, other)
        self.assertEqual(never_moved(yard, floor), never_moved(yard, other))
        self.assertEqual(tree(yard, floor), tree(yard, other))
        for couple in floor:
            self.assertIs(is_why_apart(yard, floor, other, couple), False)

    def check_apart(self, yard, floor, other):
        self.assertRaises(CanNot, lead_to, yard, floor, other)
        self.assertRaises(CanNot, slides_apart, yard, floor, other)
        still = still_by_search(yard, floor)
        why = why_apart(yard, floor, other)
        self.assertIn(why, still)
        self.assertNotIn(why, other)
        for couple in couples_by_words(yard)[::1 if len(yard) < 4 else 5] + [why]:
            wanted = couple in still and couple not in other
            self.assertIs(is_why_apart(yard, floor, other, couple), wanted)
        for plan in list(dict(search(yard, floor)).values())[:4]:
            self.assertIs(is_lead(yard, floor, other, plan), False)
        self.assertNotEqual(never_moved(yard, floor), never_moved(yard, other))

    def test_unlike_kinds(self):
        chance = random.Random(3)
        for yard in (ONE, TWO, BEND, BOX, NINE) + GREAT:
            posts = [place for place in all_places(yard) if kind_by_words(place) == "post"]
            plots = [place for place in all_places(yard) if kind_by_words(place) == "plot"]
            for _ in range(3):
                floor = chance_floor(yard, chance.choice(posts), chance)
                other = chance_floor(yard, chance.choice(plots), chance)
                for first, second in ((floor, other), (other, floor)):
                    self.assertIs(can_lead(yard, first, second), False)
                    why = why_apart(yard, first, second)
                    self.assertIs(is_why_apart(yard, first, second, why), True)

    def test_longer_plans(self):
        chance = random.Random(8)
        for yard, floor, other in pairs()[::7]:
            plan, here = (), floor
            for _ in range(8):
                told = slides_by_words(yard, here)
                if told:
                    place, here = chance.choice(told)
                    plan += (place,)
            self.assertIs(is_lead(yard, floor, here, plan), True)
            self.assertEqual((len(plan) - slides_apart(yard, floor, here)) % 2, 0)
            self.assertGreaterEqual(len(plan), slides_apart(yard, floor, here))
            self.assertIs(is_lead(yard, floor, other, plan), other == here)

    def test_all_of_many(self):
        for yard in (ONE, TWO):
            every = every_floor(yard)
            for floor in every[::3]:
                wanted = tuple(at for at, own in enumerate(every) if own in dict(search(yard, floor)))
                self.assertEqual(led_by_all(yard, floor, tuple(every)), wanted)
            self.assertEqual(led_by_all(yard, every[0], tuple(every[:1]) * 5), (0, 1, 2, 3, 4))
        self.assertEqual(led_by_all(ONE, BEGIN, ()), ())
        self.assertEqual(led_by_all(ONE, BEGIN, []), ())
        self.assertEqual(led_by_all(ONE, BEGIN, (ASIDE, ROUND)), ())

    def test_yards_of_forty(self):
        chance = random.Random(14)
        for yard in GREAT:
            for floor in sample_floors(yard, 24, 31):
                plans = dict(search(yard, floor))
                for other in list(plans)[::11]:
                    self.assertEqual(lead_to(yard, floor, other), plans[other])
                    self.assertEqual(slides_apart(yard, floor, other), len(plans[other]))
                apart = chance_floor(yard, hole_by_words(yard, floor), chance)
                if apart not in plans:
                    self.assertIs(is_why_apart(yard, floor, apart, why_apart(yard, floor, apart)), True)
                    self.assertIs(can_lead(yard, floor, apart), False)

    def test_things(self):
        there = ((0, 2), (2, 2), (2, 0))
        bad = NEVER + (list(there), as_lists(there), half_lists(there), (0, 2), ((0, 2), (2, 2), (2, False)), [])
        for thing in bad:
            self.assertIs(is_lead(ONE, BEGIN, END, thing), False, thing)
            self.assertIs(is_lead(ONE, BEGIN, BEGIN, thing), False, thing)
            self.assertIs(is_why_apart(ONE, ROUND, BEGIN, thing), False, thing)
        for thing in (there[:2], (), there + ((2, 2),), there[1:], ((0, 2), (1, 2)), ((0, 1),), ((9, 9),)):
            self.assertIs(is_lead(ONE, BEGIN, END, thing), False, thing)
        self.assertIs(is_lead(ONE, BEGIN, END, ((0, 2), (0, 0)) * 50000 + there), True)
        self.assertIs(is_lead(ONE, BEGIN, END, ((0, 2), (0, 0)) * 50000), False)
        self.assertIs(is_lead(ONE, BEGIN, BEGIN, ((0, 2), (0, 0)) * 50000), True)
        couple = ((0, 0), (0, 1))
        self.assertIs(is_why_apart(ONE, ROUND, BEGIN, couple), True)
        for thing in (
            list(couple), as_lists(couple), ([0, 0], (0, 1)), ((0, 0), [0, 1]), (couple,), couple * 2, couple[::-1],
            ((False, 0), (0, 1)), ((0, 0), (0, True)), ((0, 0), (1, 0)), ((0, 0),), ((5, 5), (5, 6)), (),
        ):
            self.assertIs(is_why_apart(ONE, ROUND, BEGIN, thing), False, thing)

    def test_unfit(self):
        bent = no_floors(ONE, BEGIN) + ((), ONE, sample_floors(TWO)[0])
        for function in BY_TWO + (is_lead, is_why_apart):
            more = (None,) if function in (is_lead, is_why_apart) else ()
            for other in (BEGIN, END, ASIDE):
                args = (ONE, BEGIN, other) + more
                check_never(self, function, args, 0, Unfit, BAD_YARDS)
                check_never(self, function, args, 1, Unfit, bent)
                check_never(self, function, args, 2, Unfit, bent)
        no_others = tuple((END, own) for own in bent) + (END, (None,), (END, None), ((END,),), "ab")
        check_never(self, led_by_all, (ONE, BEGIN, ()), 0, Unfit, BAD_YARDS)
        check_never(self, led_by_all, (ONE, BEGIN, ()), 1, Unfit, bent)
        check_never(self, led_by_all, (ONE, BEGIN, ()), 2, Unfit, no_others)

    def test_forms(self):
        names = ("yard", "floor", "other")
        for yard, floor, other in pairs()[::9]:
            if len(yard) < 4:
                for function in BY_TWO:
                    check_calls(self, function, names, (yard, floor, other))
                check_calls(self, led_by_all, ("yard", "floor", "others"), (yard, floor, (other, floor, other)))
        check_calls(self, led_by_all, ("yard", "floor", "others"), (ONE, BEGIN, ()))
        there = ((0, 2), (2, 2), (2, 0))
        self.assertIs(is_lead(thing=there, other=as_lists(END), floor=as_lists(BEGIN), yard=as_lists(ONE)), True)
        told = is_why_apart(thing=((0, 0), (0, 1)), other=as_lists(BEGIN), floor=as_lists(ROUND), yard=as_lists(ONE))
        self.assertIs(told, True)


if __name__ == "__main__":
    unittest.main()
