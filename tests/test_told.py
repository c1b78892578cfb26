import random
import unittest
from itertools import combinations

from holefloors import told as module
from holefloors.counts import how_many
from holefloors.errors import CanNot, NoPlace, Unfit
from holefloors.floors import is_floor, some_floor
from holefloors.told import can_finish, clash, couples_in_all, couples_in_some, finished, is_finished, is_why_not
from holefloors.told import many_with, share_with, why_not
from tests.support import BAD_YARDS, BEND, BLOCK40, BOX, COMB, FAR, FEW, NEVER, NINE, OBLONG, ONE, ROW14, ROW40
from tests.support import SNAKE40, TWO, all_places, as_lists, cells_by_squares, chance_floor, check_calls, check_never
from tests.support import check_no_place, couples_by_words, floors_by_trying, grown, half_lists, hole_by_words
from tests.support import is_beside, kind_by_words, nested, outcome, run_examples, sample_floors

EXAMPLES = '''
    >>> one, two = ((0, 0),), ((0, 0), (1, 0))
    >>> east, west = ((2, 0), (3, 0)), ((2, 0), (1, 0))
    >>> many_with(two, (0, 0), ()), many_with(two, (0, 0), (east,)), many_with(two, (0, 0), (west,)), share_with(two, (0, 0), (), ((2, 0), (2, 1)))
    (15, 1, 11, (3, 15))
    >>> gone = (((0, 0), (0, 1)), ((0, 2), (1, 2)), ((2, 0), (1, 0)), ((2, 2), (2, 1)))
    >>> finished(one, (1, 1), gone[:1]) == gone, couples_in_all(one, (1, 1), gone[:1]) == gone, len(couples_in_some(one, (1, 1), ())), many_with(one, (1, 1), ())
    (True, True, 8, 2)
    >>> apart = (((0, 2), (1, 2)), ((2, 0), (2, 1)))
    >>> can_finish(one, (0, 0), apart), many_with(one, (0, 0), apart), [is_why_not(one, (0, 0), apart, own) for own in (((2, 2),), ((0, 1),), ((0, 1), (1, 0)), (), why_not(one, (0, 0), apart))]
    (False, 0, [True, False, True, False, True])
    >>> clash(two, (0, 0), (((0, 2), (0, 1)), ((1, 1), (0, 1)))), is_finished(one, (1, 1), gone[:2], gone), is_finished(one, (1, 1), (), list(gone))
    ((0, 1), True, False)
    >>> why_not(one, (1, 1), gone)
    raises CanNot()
    >>> many_with(one, (0, 0), (((0, 2), (1, 2)), ((1, 1), (1, 0))))
    raises CanNot()
    >>> finished(one, (0, 0), apart)
    raises CanNot()
    >>> clash(one, (1, 0), ())
    raises NoPlace(place=(1, 0))
'''
BY_TOLD = (clash, many_with, can_finish, finished, why_not, couples_in_all, couples_in_some)
GREAT = (ROW14, ROW40, BLOCK40, SNAKE40, grown(40, 141))
APART = (((0, 2), (1, 2)), ((2, 0), (2, 1)))


def clashes_by_words(hole, told):
    every = [cell for couple in told for cell in couple]
    return sorted(cell for cell in set(every) if every.count(cell) > 1 or cell == hole)


def bars_by_words(yard, hole, told, lot):
    """Whether a tuple, ascending, of CELLS is a LOT that bars TOLD without a clash."""
    posts, rails, plots = cells_by_squares(yard)
    taken = {hole} | {cell for couple in told for cell in couple}
    if not lot or not (set(lot) <= rails or set(lot) <= posts | plots) or set(lot) & taken:
        return False
    beside = {cell for cell in posts | rails | plots for own in lot if is_beside(cell, own)}
    return len(beside - taken) < len(lot)


def kinds_of(told):
    return {kind_by_words(place) for place, _ in told}


def some_told(yard, hole, chance, many):
    """TOLD by chance: of any COUPLES, of one kind, parts of FLOORS, whole ones, such with a COUPLE more."""
    every = couples_by_words(yard)
    floor = chance_floor(yard, hole, chance)
    found = [(), floor, tuple(own for own in floor if kind_by_words(own[0]) == "post")]
    found += [tuple(own for own in floor if kind_by_words(own[0]) == "plot"), tuple(every)]
    for _ in range(many):
        some = chance.sample(floor, chance.randrange(len(floor)))
        found.append(tuple(sorted(some)))
        found.append(tuple(sorted(set(some) | {chance.choice(every)})))
        found.append(tuple(sorted(own for own in some if kind_by_words(own[0]) == "post")))
        found.append(tuple(sorted(chance.sample(every, min(len(every), chance.randrange(1, 5))))))
        kind = chance.choice(("post", "plot"))
        own_kind = [own for own in every if kind_by_words(own[0]) == kind]
        found.append(tuple(sorted(chance.sample(own_kind, min(len(own_kind), chance.randrange(1, 4))))))
    return found


class ToldTest(unittest.TestCase):
    def test_examples(self):
        run_examples(self, EXAMPLES, vars(module))

    def check(self, yard, hole, told, floors):
        """All that is told, beside all FLOORS with this HOLE."""
        own = [floor for floor in floors if set(told) <= set(floor)]
        clashes = clashes_by_words(hole, told)
        if clashes:
            self.assertEqual(clash(yard, hole, told), clashes[0])
            self.assertEqual(own, [])
        else:
            self.assertRaises(CanNot, clash, yard, hole, told)
        if len(kinds_of(told)) > 1:
            self.assertRaises(CanNot, many_with, yard, hole, told)
        else:
            self.assertEqual(many_with(yard, hole, told), len(own), (yard, hole, told))
        self.assertIs(can_finish(yard, hole, told), bool(own))
        if own:
            self.assertIn(finished(yard, hole, told), own)
            self.assertRaises(CanNot, why_not, yard, hole, told)
            every = [couple for couple in couples_by_words(yard) if all(couple in floor for floor in own)]
            self.assertEqual(couples_in_all(yard, hole, told), tuple(every))
            some = sorted({couple for floor in own for couple in floor})
            self.assertEqual(couples_in_some(yard, hole, told), tuple(some))
        else:
            for function in (finished, couples_in_all, couples_in_some):
                self.assertRaises(CanNot, function, yard, hole, told)
            self.check_barred(yard, hole, told, clashes)
        for floor in floors[:3] + own[:3]:
            self.assertIs(is_finished(yard, hole, told, floor), floor in own)

    def check_barred(self, yard, hole, told, clashes):
        if clashes:
            self.assertRaises(CanNot, why_not, yard, hole, told)
            for cell in sorted(set().union(*cells_by_squares(yard))):
                self.assertIs(is_why_not(yard, hole, told, (cell,)), False)
        else:
            lot = why_not(yard, hole, told)
            self.assertTrue(bars_by_words(yard, hole, told, lot), (yard, hole, told, lot))
            self.assertEqual(lot, tuple(sorted(set(lot))))
            self.assertIs(is_why_not(yard, hole, told, lot), True)

    def test_beside_all_floors(self):
        chance = random.Random(77)
        for yard in FEW + (FAR, ((0, 0), (1, 0), (2, 0), (3, 0))):
            for hole in all_places(yard)[::1 if len(yard) < 4 else 4]:
                floors = list(floors_by_trying(yard, hole))
                for told in some_told(yard, hole, chance, 5):
                    self.check(yard, hole, told, floors)

    def test_each_couple_and_two(self):
        for yard in (ONE, TWO):
            for hole in all_places(yard):
                floors = list(floors_by_trying(yard, hole))
                every = couples_by_words(yard)
                for couple in every:
                    self.check(yard, hole, (couple,), floors)
                for told in list(combinations(every, 2))[::1 if yard == ONE else 7]:
                    self.check(yard, hole, told, floors)

    def test_shares(self):
        chance = random.Random(78)
        for yard in FEW + (FAR,):
            for hole in all_places(yard)[::2]:
                floors = floors_by_trying(yard, hole)
                for told in some_told(yard, hole, chance, 3):
                    own = [floor for floor in floors if set(told) <= set(floor)]
                    for couple in couples_by_words(yard)[::3] + list(told[:2]):
                        if len(kinds_of(told + (couple,))) > 1 or not own:
                            self.assertRaises(CanNot, share_with, yard, hole, told, couple)
                        else:
                            many = len([floor for floor in own if couple in floor])
                            self.assertEqual(share_with(yard, hole, told, couple), (many, len(own)))

    def test_all_lots_of_one_square(self):
        cells = sorted(set().union(*cells_by_squares(ONE)))
        ring = nested(1)
        for hole, told in (
            ((0, 0), APART), ((0, 0), ()), ((1, 1), ()), ((0, 0), (((1, 1), (0, 1)), ((2, 0), (1, 0)))), ((1, 1), ring),
            ((0, 0), (((0, 2), (0, 1)), ((2, 0), (2, 1)))), ((0, 0), (((0, 2), (1, 2)), ((2, 2), (1, 2)))),
            ((2, 2), (((0, 2), (0, 1)), ((2, 0), (1, 0)))), ((1, 1), (((0, 0), (0, 1)), ((2, 0), (2, 1)))),
        ):
            clashes, barred = clashes_by_words(hole, told), 0
            for many in range(len(cells) + 1):
                for lot in combinations(cells, many):
                    wanted = not clashes and bars_by_words(ONE, hole, told, lot)
                    self.assertIs(is_why_not(ONE, hole, told, lot), wanted, (hole, told, lot))
                    barred += wanted
            # Some LOT bars what has no clash and can not be finished, and nothing else.
            self.assertEqual(barred > 0, not clashes and not can_finish(ONE, hole, told))

    def test_lots_by_chance(self):
        chance = random.Random(79)
        for yard in (TWO, BEND, BOX, OBLONG):
            posts, rails, plots = cells_by_squares(yard)
            for hole in all_places(yard)[::3]:
                for told in some_told(yard, hole, chance, 2):
                    for kind in (rails, posts | plots, rails | posts | plots):
                        for _ in range(8):
                            lot = tuple(sorted(chance.sample(sorted(kind), chance.randrange(len(kind)))))
                            wanted = not clashes_by_words(hole, told) and bars_by_words(yard, hole, told, lot)
                            self.assertIs(is_why_not(yard, hole, told, lot), wanted)

    def test_great_yards(self):
        chance = random.Random(80)
        for yard in GREAT + (NINE, COMB):
            for floor in sample_floors(yard, 26, 41):
                hole = hole_by_words(yard, floor)
                part = tuple(sorted(chance.sample(floor, len(floor) // 2)))
                for told in ((), part, floor):
                    self.assertIs(can_finish(yard, hole, told), True)
                    made = finished(yard, hole, told)
                    self.assertTrue(is_floor(yard, made) and set(told) <= set(made))
                    self.assertEqual(hole_by_words(yard, made), hole)
                    self.assertIs(is_finished(yard, hole, told, made), True)
                    self.assertRaises(CanNot, why_not, yard, hole, told)
                    every, some = couples_in_all(yard, hole, told), couples_in_some(yard, hole, told)
                    self.assertTrue(set(told) <= set(every) <= set(made) <= set(some))
                    self.assertEqual(every == made, some == made)
                self.assertEqual(couples_in_all(yard, hole, floor), floor)
                self.assertEqual(couples_in_some(yard, hole, floor), floor)
                self.check_in_some(yard, hole, part, chance)
                self.check_spoilt(yard, hole, part, chance)

    def check_in_some(self, yard, hole, told, chance):
        """A COUPLE is of some FLOOR exactly if, put to what is told, it can be finished."""
        every, some = couples_in_all(yard, hole, told), couples_in_some(yard, hole, told)
        for couple in chance.sample(couples_by_words(yard), 12):
            more = tuple(sorted(set(told) | {couple}))
            self.assertEqual(couple in some, can_finish(yard, hole, more))
        for couple in chance.sample(every, min(5, len(every))):
            others = [own for own in couples_by_words(yard) if own[0] == couple[0] and own != couple]
            self.assertFalse(set(others) & set(some))

    def check_spoilt(self, yard, hole, told, chance):
        """Told COUPLES and one by chance: finished, or barred by a LOT, or with a clash."""
        for _ in range(10):
            more = tuple(sorted(set(told) | {chance.choice(couples_by_words(yard))}))
            if clashes_by_words(hole, more):
                self.assertEqual(clash(yard, hole, more), clashes_by_words(hole, more)[0])
                self.assertIs(can_finish(yard, hole, more), False)
            elif can_finish(yard, hole, more):
                self.assertIs(is_finished(yard, hole, more, finished(yard, hole, more)), True)
            else:
                self.assertTrue(bars_by_words(yard, hole, more, why_not(yard, hole, more)))

    def test_sums(self):
        chance = random.Random(81)
        for yard in (BOX, OBLONG, NINE, COMB, ROW14, ROW40, BLOCK40):
            for hole in chance.sample(all_places(yard), 3):
                floor = some_floor(yard, hole)
                for kind in ("post", "plot"):
                    told = [own for own in chance.sample(floor, len(floor) // 4) if kind_by_words(own[0]) == kind]
                    told = tuple(sorted(told))
                    whole = many_with(yard, hole, told)
                    self.assertEqual(many_with(yard, hole, ()), how_many(yard, hole))
                    self.assertGreater(whole, 0)
                    others = [own for own in all_places(yard) if kind_by_words(own) == kind and own != hole]
                    for place in chance.sample(others, min(len(others), 4)):
                        numbers = []
                        for couple in couples_by_words(yard):
                            if couple[0] == place:
                                share = share_with(yard, hole, told, couple)
                                self.assertEqual(share[1], whole)
                                self.assertEqual(share[0], many_with(yard, hole, tuple(sorted({*told, couple}))))
                                numbers.append(share[0])
                        self.assertEqual(sum(numbers), whole)

    def test_whole_floors(self):
        for yard in (ONE, BEND, NINE):
            for floor in sample_floors(yard, 27, 3):
                hole = hole_by_words(yard, floor)
                for kind in ("post", "plot"):
                    told = tuple(own for own in floor if kind_by_words(own[0]) == kind)
                    self.assertGreater(many_with(yard, hole, told), 0)
                # With another HOLE each FLOOR has a clash: that HOLE itself.
                other = floor[0][0]
                self.assertEqual(clash(yard, other, floor), other)
                self.assertIs(can_finish(yard, other, floor), False)
                self.assertIs(is_finished(yard, other, (), floor), False)

    def test_things(self):
        ring = nested(1)
        for told in ((), ring[:1], ring):
            self.assertIs(is_finished(ONE, (1, 1), told, ring), True)
            bad = NEVER + ((), list(ring), as_lists(ring), half_lists(ring), ring[::-1], ring[1:], (ring,), ring + (None,))
            for thing in bad + (ring * 2, (list(ring[0]),) + ring[1:], ring + ring[-1:]):
                self.assertIs(is_finished(ONE, (1, 1), told, thing), False, thing)
        self.assertIs(is_finished(ONE, (0, 0), (), ring), False)
        good = ((0, 1), (1, 0))
        bad = NEVER + ((), list(good), as_lists(good), ([0, 1], (1, 0)), good[::-1], good + good[1:], (good,), good[0])
        for thing in bad + ((good[0], (1, False)), (good[0], (True, 0)), good + (None,), good + ((1, 1),), (None,) + good):
            self.assertIs(is_why_not(ONE, (0, 0), APART, thing), False, thing)
        for thing in (good, ((2, 2),)):
            self.assertIs(is_why_not(ONE, (0, 0), APART, thing), True)
        for lot in (((4, 4),), ((-1, 0),), ((3, 0), (3, 2)), ((2, 2), (4, 4)), ((10 ** 9, 10 ** 9),)):
            self.assertIs(is_why_not(ONE, (0, 0), APART, lot), False)

    def test_both_kinds(self):
        both = (((0, 2), (0, 1)), ((1, 1), (1, 0)))
        self.assertRaises(CanNot, many_with, ONE, (0, 0), both)
        # Of both kinds and with a clash, too.
        self.assertRaises(CanNot, many_with, ONE, (0, 2), both)
        self.assertRaises(CanNot, share_with, ONE, (0, 0), both[:1], both[1])
        self.assertRaises(CanNot, share_with, ONE, (0, 0), both, both[0])
        self.assertIs(can_finish(ONE, (0, 0), both), True)
        self.assertEqual(share_with(ONE, (0, 0), (), both[1]), (1, 4))
        # What the COUPLE clashes with is no matter, if TOLD alone have FLOORS.
        self.assertEqual(share_with(ONE, (0, 0), (), ((0, 0), (1, 0))), (0, 4))
        self.assertEqual(share_with(ONE, (0, 0), both[:1], ((0, 2), (1, 2)))[0], 0)
        self.assertEqual(share_with(ONE, (0, 0), both[:1], both[0])[0], many_with(ONE, (0, 0), both[:1]))
        self.assertRaises(CanNot, share_with, ONE, (0, 2), both[:1], ((0, 0), (1, 0)))

    def test_errors(self):
        part = ((0, 2), (0, 1))
        no_sets = (
            (part, ((9, 9), (9, 8))), (part, part), (part, ((0, 0), (0, 1))), part, (part + part,), (part, None),
            (((1, 0), (1, 1)),), (((3, 1), (3, 0)),), (((1, 1), (1, False)),), "ab", {part: 1},
        )
        for function in BY_TOLD + (is_finished, is_why_not, share_with):
            more = (part,) if function == share_with else (None,) if function in (is_finished, is_why_not) else ()
            for hole in ((0, 0), (1, 0)):
                check_never(self, function, (ONE, hole, (part,)) + more, 0, Unfit, BAD_YARDS)
                check_never(self, function, (ONE, hole, (part,)) + more, 2, Unfit, no_sets)
            check_never(self, function, (ONE, (0, 0), (part,)) + more, 1, Unfit, ((), part))
            for told in ((part,), (), APART, (part, ((2, 2), (1, 2)))):
                check_no_place(self, function, (ONE, (0, 0), told) + more, 1)
        for hole in ((0, 0), (1, 0), (0, 2)):
            for told in ((part,), ()):
                check_never(self, share_with, (ONE, hole, told, part), 3, Unfit, (
                    part[::-1], ((0, 0), (1, 1)), ((4, 0), (4, 1)), (part,), part + part, ((0, False), (1, 0)), (),
                ))
        self.assertRaises(NoPlace, share_with, ONE, (1, 0), (part, ((1, 1), (1, 0))), part)

    def test_forms(self):
        chance = random.Random(82)
        for yard in (ONE, BEND, BOX):
            for hole in all_places(yard)[::3] + [(1, 0)]:
                for told in some_told(yard, all_places(yard)[0], chance, 1):
                    for function in BY_TOLD:
                        check_calls(self, function, ("yard", "hole", "told"), (yard, hole, told))
                    for couple in couples_by_words(yard)[::6]:
                        check_calls(self, share_with, ("yard", "hole", "told", "couple"), (yard, hole, told, couple))
                    for thing in (told, list(told), (hole,)):
                        for function in (is_finished, is_why_not):
                            check_calls(self, function, ("yard", "hole", "told", "thing"), (yard, hole, told, thing))
        self.assertEqual(outcome(finished, (ONE, [0, 0], as_lists(APART))), "raises CanNot()")


if __name__ == "__main__":
    unittest.main()
