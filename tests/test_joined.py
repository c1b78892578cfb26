import random
import unittest

from holefloors import joined as module
from holefloors.counts import free_many, how_many
from holefloors.errors import CanNot, NoCell, NoPlace, Unfit
from holefloors.floors import is_floor
from holefloors.joined import bare, common_rail, end_shares, free_joined, halves, joined, many_joined, parted, put_halves
from holefloors.numbered import first_floor, last_floor
from holefloors.yards import boxed, is_yard
from tests.support import ARCH, BAD_YARDS, BEND, BLOCK40, BOX, COMB, CROSS, FAR, NINE, OBLONG, ONE, ROW14, ROW40
from tests.support import SNAKE40, STAIRS, TWO, all_places, as_lists, cells_by_squares, check_calls, check_never
from tests.support import check_no_place, couples_by_words, every_floor, floors_by_trying, free_by_trying, grown
from tests.support import hole_by_words, is_beside, no_floors, outcome, run_examples, sample_floors, small_yards

EXAMPLES = '''
    >>> one, east = ((0, 0),), ((1, 0),)
    >>> common_rail(one, east), joined(one, east), parted(((0, 0), (1, 0)), (2, 1)), bare(one, (2, 1))
    ((2, 1), ((0, 0), (1, 0)), (((0, 0),), ((1, 0),)), 3)
    >>> end_shares(one, (1, 1), (2, 1)), end_shares(one, (0, 0), (2, 1)), [many_joined(one, east, own) for own in ((0, 0), (1, 1), (2, 0))], free_joined(one, east)
    ((1, 1, 0), (1, 2, 1), [15, 8, 15], 15)
    >>> part, rest = halves(one, east, last_floor(joined(one, east), (0, 0)))
    >>> part, hole_of(east, rest), put_halves(one, east, part, rest) == last_floor(joined(one, east), (0, 0))
    ((((0, 2), (1, 2)), ((1, 1), (0, 1)), ((2, 0), (1, 0)), ((2, 2), (2, 1))), (2, 0), True)
    >>> joined(one, ((1, 1),))
    raises CanNot()
    >>> parted(((0, 0), (0, 1), (1, 0), (1, 1)), (2, 1))
    raises CanNot()
'''
EXAMPLE_NAMES = {"hole_of": hole_by_words, "last_floor": last_floor}
EAST, NORTH = ((1, 0),), ((0, 1),)
TEE = ((0, 0), (1, 0), (1, 1), (2, 0))


def every_cell(yard):
    return set().union(*cells_by_squares(yard))


def rail_by_words(yard, other):
    """The common RAIL of two YARDS side by side; None if they are not."""
    common = every_cell(yard) & every_cell(other)
    rails = common & cells_by_squares(yard)[1]
    if len(rails) != 1 or set(yard) & set(other):
        return None
    rail = min(rails)
    return rail if common == {rail} | set(ends_by_words(yard, rail)) else None


def ends_by_words(yard, rail):
    return sorted(post for post in cells_by_squares(yard)[0] if is_beside(post, rail))


def pairs(most):
    """Pairs of YARDS side by side with so many SQUARES together at the most, each both ways."""
    found = []
    for whole in small_yards(most):
        for rail in sorted(cells_by_squares(whole)[1]):
            for part in range(1, 2 ** len(whole) - 1):
                yard = tuple(own for at, own in enumerate(whole) if part >> at & 1)
                other = tuple(own for own in whole if own not in yard)
                if is_yard(yard) and is_yard(other) and rail_by_words(yard, other) == rail:
                    found.append((yard, other, rail))
    return found


def halves_by_words(yard, other, floor):
    """The halves, as the document tells them."""
    rail = rail_by_words(yard, other)
    low, high = ends_by_words(yard, rail)
    own = {side: [couple for couple in floor if couple in couples_by_words(side)] for side in (yard, other)}
    hole = hole_by_words(tuple(sorted(yard + other)), floor)
    made = {}
    if hole in (low, high):
        end = low if hole == high else high
        for side in (yard, other):
            made[side] = own[side] + ([] if any(place == end for place, _ in own[side]) else [(end, rail)])
    else:
        home = yard if hole in every_cell(yard) else other
        away = other if home == yard else yard
        touching = [couple for couple in floor if {low, high, rail} & set(couple)]
        if set(touching) <= set(own[home]):
            made[home] = own[home]
            made[away] = [couple for couple in floor if couple not in own[home]] + [(low, rail)]
        else:
            end = [post for post in (low, high) if any(place == post and to != rail for place, to in own[away])]
            made[away] = own[away]
            made[home] = own[home] + [(end[0], rail)]
    return tuple(sorted(made[yard])), tuple(sorted(made[other]))


def many_by_sums(yard, other, hole):
    """How many FLOORS both have with this HOLE, by numbers of each alone."""
    rail = rail_by_words(yard, other)
    low, high = ends_by_words(yard, rail)
    if hole in (low, high):
        one, two = how_many(yard, hole), how_many(other, hole)
        its, others = bare(yard, rail), bare(other, rail)
        return one * others + its * two - its * others
    home, away = (yard, other) if hole in all_places(yard) else (other, yard)
    shares, its = end_shares(home, hole, rail), bare(away, rail)
    added = how_many(home, hole) * its
    for end, share in ((high, shares[0]), (low, shares[1])):
        added += share * (how_many(away, end) - its)
    return added


class JoinedTest(unittest.TestCase):
    def test_examples(self):
        run_examples(self, EXAMPLES, {**vars(module), **EXAMPLE_NAMES})

    def test_side_by_side(self):
        for yard, other, rail in pairs(4):
            whole = tuple(sorted(yard + other))
            for one, two in ((yard, other), (other, yard)):
                self.assertEqual(common_rail(one, two), rail)
                self.assertEqual(joined(one, two), whole)
            self.assertEqual(parted(whole, rail), tuple(sorted((yard, other))))
            self.assertTrue(is_yard(joined(yard, other)))

    def test_all_rails_parted(self):
        for whole in small_yards(5) + [FAR, ARCH, COMB, CROSS, OBLONG, NINE]:
            for rail in sorted(cells_by_squares(whole)[1]):
                found = self.parts_by_trying(whole, rail)
                if found:
                    self.assertEqual(parted(whole, rail), found)
                    self.assertEqual(joined(*parted(whole, rail)), whole)
                else:
                    self.assertRaises(CanNot, parted, whole, rail)

    def parts_by_trying(self, whole, rail):
        """The pair of YARDS with this RAIL in common that are the YARD together; () if there are none."""
        found = set()
        for part in range(1, 2 ** len(whole) - 1):
            yard = tuple(own for at, own in enumerate(whole) if part >> at & 1)
            other = tuple(own for own in whole if own not in yard)
            if rail_by_words(yard, other) == rail and is_yard(yard) and is_yard(other):
                found.add(tuple(sorted((yard, other))))
        self.assertLessEqual(len(found), 1)
        return min(found) if found else ()

    def test_not_side_by_side(self):
        for yard, other in (
            (ONE, ((1, 1),)), (ONE, ONE), (ONE, ((5, 5),)), (TWO, ((1, 0), (2, 0))), (TWO, ((0, 1), (1, 1))), (ONE, TWO),
            (BEND, ((1, 1),)), (ARCH, ((2, 1),)), (BEND, ((1, 1), (2, 1))), (((0, 0), (1, 0), (2, 0)), ((0, 1), (1, 1))),
            (ONE, ((0, 2),)), (ONE, FAR), (((0, 0), (1, 0), (1, 1)), ((0, 1), (0, 2), (1, 2))), (ONE, ((2, 0),)),
            # A RAIL and one more POST; three POSTS without a RAIL.
            (((0, 0), (0, 1), (0, 2), (1, 2)), ((1, 0), (2, 0), (2, 1))),
            (COMB, ((1, 2), (1, 3), (2, 3), (3, 3), (4, 3), (5, 2), (5, 3))),
            (boxed(3, 1), ((1, 1), (1, 2), (2, 1))), (ARCH, ((2, 1), (3, 1))), (TWO, ((2, 1), (3, 1))),
        ):
            floor, its = first_floor(yard, (yard[0][0] * 2, yard[0][1] * 2)), last_floor(other, all_places(other)[0])
            self.assertTrue(is_yard(yard) and is_yard(other))
            for one, two, first, second in ((yard, other, floor, its), (other, yard, its, floor)):
                self.assertIsNone(rail_by_words(one, two))
                for function in (common_rail, joined, free_joined):
                    self.assertRaises(CanNot, function, one, two)
                for hole in ((0, 0), (1, 0), (10 ** 6, 3)):
                    self.assertRaises(CanNot, many_joined, one, two, hole)
                for bad in (first, (), None, "floor", deep_list()):
                    self.assertRaises(CanNot, halves, one, two, bad)
                    self.assertRaises(CanNot, put_halves, one, two, bad, second)
                    self.assertRaises(CanNot, put_halves, one, two, first, bad)

    def test_counts_beside_all_floors(self):
        for yard, other, rail in pairs(3) + pairs(4)[::3]:
            whole = joined(yard, other)
            for hole in all_places(whole):
                many = len(floors_by_trying(whole, hole))
                self.assertEqual(many_joined(yard, other, hole), many)
                self.assertEqual(many_by_sums(yard, other, hole), many)
            corner = all_places(whole)[0]
            self.assertEqual(free_joined(yard, other), len(free_by_trying(whole, corner)))

    def test_shares_beside_all_floors(self):
        for yard in small_yards(3) + [BOX, FAR]:
            for rail in sorted(cells_by_squares(yard)[1])[::1 if len(yard) < 3 else 3]:
                low, high = ends_by_words(yard, rail)
                self.assertEqual(bare(yard, rail), self.many(yard, high, (low, rail)))
                self.assertEqual(bare(yard, rail), self.many(yard, low, (high, rail)))
                for hole in all_places(yard):
                    told = end_shares(yard, hole, rail)
                    ends = tuple(self.many(yard, hole, (end, rail)) for end in (low, high))
                    self.assertEqual(told, ends + (len(floors_by_trying(yard, hole)) - sum(ends),))
                    plots = [plot for plot in cells_by_squares(yard)[2] if is_beside(plot, rail)]
                    self.assertEqual(told[2], sum(self.many(yard, hole, (plot, rail)) for plot in plots))

    def many(self, yard, hole, couple):
        return len([floor for floor in floors_by_trying(yard, hole) if couple in floor])

    def test_great_yards(self):
        chance = random.Random(111)
        grown_one = tuple((x + 60, y) for x, y in grown(39, 171))
        east = max(grown_one)
        for yard, other in (
            (ROW40, tuple((x + 40, y) for x, y in BLOCK40)), (BLOCK40, tuple((x, y + 5) for x, y in boxed(1, 14))),
            (grown_one, ((east[0] + 1, east[1]), (east[0] + 2, east[1]))), (boxed(1, 40), tuple((x + 1, 39) for x in range(40))),
            (SNAKE40, tuple((x + 9, 2) for x in range(20))), (NINE, tuple((x, y + 3) for x, y in ROW14[:1])),
        ):
            rail = rail_by_words(yard, other)
            self.assertEqual(common_rail(yard, other), rail)
            whole = joined(yard, other)
            self.assertEqual(parted(whole, rail), tuple(sorted((yard, other))))
            for hole in chance.sample(all_places(whole), 4) + ends_by_words(yard, rail):
                self.assertEqual(many_joined(yard, other, hole), how_many(whole, hole))
                self.assertEqual(many_by_sums(yard, other, hole), how_many(whole, hole))
            free = free_many(yard) * free_bare(other, rail) + free_bare(yard, rail) * free_many(other)
            self.assertEqual(free_joined(yard, other), free - free_bare(yard, rail) * free_bare(other, rail))
            for floor in [own for own in sample_floors(whole, 31, 31)]:
                self.check_halves(yard, other, floor)

    def check_halves(self, yard, other, floor):
        part, rest = halves(yard, other, floor)
        self.assertEqual((part, rest), halves_by_words(yard, other, floor))
        self.assertTrue(is_floor(yard, part) and is_floor(other, rest))
        self.assertEqual(halves(other, yard, floor), (rest, part))
        self.assertEqual(put_halves(yard, other, part, rest), floor)
        self.assertEqual(put_halves(other, yard, rest, part), floor)
        return part, rest

    def test_halves_of_all_floors(self):
        for yard, other, rail in pairs(2) + pairs(3)[::2] + [(TWO, ((2, 0), (2, 1)), (4, 1))]:
            whole = joined(yard, other)
            for hole in all_places(whole):
                floors = floors_by_trying(whole, hole)
                made = {self.check_halves(yard, other, floor) for floor in floors[::1 if len(whole) < 4 else 9]}
                self.assertEqual(len(made), len(floors[::1 if len(whole) < 4 else 9]))

    def test_all_floors_put_together(self):
        for yard, other in ((ONE, EAST), (NORTH, ONE), (((2, 1),), ((2, 0),))):
            wanted = {halves_by_words(yard, other, floor): floor for floor in every_floor(joined(yard, other))}
            for part in every_floor(yard):
                for rest in every_floor(other):
                    if (part, rest) in wanted:
                        self.assertEqual(put_halves(yard, other, part, rest), wanted[(part, rest)])
                    else:
                        self.assertRaises(CanNot, put_halves, yard, other, part, rest)
        yard, other = BEND, ((1, 2), (2, 2))
        self.assertRaises(CanNot, joined, yard, other)
        yard, other = BEND, ((2, 0),)
        wanted = {halves_by_words(yard, other, floor): floor for floor in every_floor(joined(yard, other))}
        for part in every_floor(yard)[::9]:
            for rest in every_floor(other):
                told = outcome(put_halves, (yard, other, part, rest))
                self.assertEqual(told, repr(wanted[(part, rest)]) if (part, rest) in wanted else "raises CanNot()")

    def test_rails_that_part_nothing(self):
        # A RAIL in the midst of a ring of SQUARES, one of the rim, one between two parts.
        for rail in ((2, 1), (1, 2), (2, 3), (3, 2), (0, 1), (4, 3)):
            self.assertRaises(CanNot, parted, BOX, rail)
        self.assertEqual(parted(TEE, (3, 2)), (((0, 0), (1, 0), (2, 0)), ((1, 1),)))
        self.assertEqual(parted(TEE, (2, 1)), (((0, 0),), ((1, 0), (1, 1), (2, 0))))
        self.assertRaises(CanNot, parted, TEE, (0, 1))
        self.assertRaises(CanNot, parted, ONE, (1, 0))

    def test_no_cell(self):
        for yard in (ONE, BEND, TWO):
            for own in all_places(yard) + [(3, 4), (-1, 0), (0, -1), (10 ** 6, 1)]:
                if own not in cells_by_squares(yard)[1]:
                    for function in (parted, bare):
                        self.assertEqual(outcome(function, (yard, list(own))), f"raises NoCell(cell={own})")
                    self.assertEqual(outcome(end_shares, (yard, (0, 0), own)), f"raises NoCell(cell={own})")
                    self.assertRaises(NoPlace, end_shares, yard, (1, 0), own)
        self.assertRaises(NoCell, parted, BOX, (9, 2))

    def test_errors(self):
        part, rest = halves(ONE, EAST, first_floor(TWO, (0, 0)))
        floor = put_halves(ONE, EAST, part, rest)
        for function, more in (
            (common_rail, ()), (joined, ()), (free_joined, ()), (many_joined, ((0, 0),)), (halves, (floor,)),
            (put_halves, (part, rest)),
        ):
            for other in (EAST, ONE):
                check_never(self, function, (ONE, other) + more, 0, Unfit, BAD_YARDS)
                check_never(self, function, (other, ONE) + more, 1, Unfit, BAD_YARDS)
        for other in (EAST, ONE):
            check_never(self, many_joined, (ONE, other, (0, 0)), 2, Unfit, ((), floor))
        check_no_place(self, many_joined, (ONE, EAST, (0, 0)), 2)
        self.assertRaises(NoPlace, many_joined, ONE, EAST, (3, 0))
        check_never(self, halves, (ONE, EAST, floor), 2, Unfit, no_floors(TWO, floor) + (part, rest, ()))
        check_never(self, put_halves, (ONE, EAST, part, rest), 2, Unfit, no_floors(ONE, part) + (rest, floor, ()))
        check_never(self, put_halves, (ONE, EAST, part, rest), 3, Unfit, no_floors(EAST, rest) + (part, floor, ()))
        for function in (parted, bare):
            for rail in ((1, 0), (0, 0)):
                check_never(self, function, (TWO, rail), 0, Unfit, BAD_YARDS)
            check_never(self, function, (TWO, (2, 1)), 1, Unfit, ((), ((0, 0), (1, 0))))
        for hole, rail in (((0, 0), (1, 0)), ((1, 0), (1, 0)), ((0, 0), (0, 0))):
            check_never(self, end_shares, (ONE, hole, rail), 0, Unfit, BAD_YARDS)
            check_never(self, end_shares, (ONE, hole, rail), 1, Unfit, ((),))
            check_never(self, end_shares, (ONE, hole, rail), 2, Unfit, ((),))
        for rail in ((1, 0), (0, 0)):
            check_no_place(self, end_shares, (ONE, (0, 0), rail), 1)

    def test_forms(self):
        for yard, other, rail in pairs(3)[::2] + [(ONE, ONE, (1, 0))]:
            for function in (common_rail, joined, free_joined):
                check_calls(self, function, ("yard", "other"), (yard, other))
            for hole in all_places(yard)[::3] + [(1, 0)]:
                check_calls(self, many_joined, ("yard", "other", "hole"), (yard, other, hole))
                for own in (rail, (1, 1)):
                    check_calls(self, end_shares, ("yard", "hole", "rail"), (yard, hole, own))
            for own in (rail, (1, 1)):
                for function in (parted, bare):
                    check_calls(self, function, ("yard", "rail"), (yard, own))
            for floor in sample_floors(tuple(sorted(set(yard + other))), 32, 5):
                check_calls(self, halves, ("yard", "other", "floor"), (yard, other, floor))
                part, rest = halves(yard, other, floor) if yard != other else (floor, floor)
                for its in (rest, sample_floors(other, 33)[0]):
                    names = ("yard", "other", "floor", "other_floor")
                    check_calls(self, put_halves, names, (yard, other, part, its))
        self.assertEqual(joined(other=as_lists(EAST), yard=as_lists(ONE)), TWO)


def free_bare(yard, rail):
    """How many free FLOORS with the greater end of a RAIL as HOLE have its lesser end's COUPLE with it."""
    from holefloors.shares import couple_many

    low, high = ends_by_words(yard, rail)
    return couple_many(yard, high, (low, rail))


def deep_list():
    return [[[[["floor"]]]]]


if __name__ == "__main__":
    unittest.main()
