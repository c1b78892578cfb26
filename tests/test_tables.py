import random
import unittest
from itertools import permutations

from holefloors import tables
from holefloors.cells import cells, kind_of, rails_at
from holefloors.errors import NoPlace, Unfit
from holefloors.tables import determinant, line_of, plain_table, switched, table_by, table_of
from holefloors.yards import rails
from tests.support import ARCH, BEND, BLOCK40, BOX, COMB, FAR, NEVER, NINE, ONE, ROW40, SMALL, SNAKE40, TWO
from tests.support import all_places, cells_by_squares, check_calls, check_never, grown, is_beside, outcome
from tests.support import run_examples

EXAMPLES = '''
    >>> one, two, box = ((0, 0),), ((0, 0), (1, 0)), ((0, 0), (0, 1), (1, 0), (1, 1))
    >>> line_of(box, (2, 2), "post"), line_of(box, (2, 2), "plot"), line_of(two, (1, 1), "post"), line_of(two, (1, 1), "plot")
    (((4, 3),), ((3, 2),), ((2, 1), (4, 1)), ((3, 0),))
    >>> table_of(one, (1, 1), "post"), table_of(one, (1, 1), "plot"), plain_table(one, (0, 0), "post")
    (((2, -1, -1, 0), (-1, 2, 0, -1), (-1, 0, 2, 1), (0, -1, 1, 2)), (), ((2, 0, -1), (0, 2, -1), (-1, -1, 2)))
    >>> table_of(box, (2, 2), "plot"), table_of(two, (0, 0), "plot") == plain_table(two, (0, 0), "plot")
    (((4, -1, -1, 0), (-1, 4, 0, -1), (-1, 0, 4, 1), (0, -1, 1, 4)), True)
    >>> [determinant(own) for own in (table_of(box, (2, 2), "plot"), table_of(box, (2, 2), "post"), plain_table(box, (2, 2), "plot"), table_of(one, (1, 1), "post"), (), ((0, 2), (3, 4)), ((1, 2), (2, 4)))]
    [196, 196, 192, 4, 1, -6, 0]
    >>> switched(box, (2, 2), ((2, 1),)), switched(two, (1, 1), ((3, 0),)), switched(two, (1, 1), switched(two, (1, 1), ()))
    (((1, 2), (2, 3), (3, 2)), ((0, 1), (1, 0), (1, 2), (2, 1), (3, 0)), ())
    >>> determinant(table_by(box, (2, 2), "plot", switched(box, (3, 3), line_of(box, (2, 2), "plot"))))
    196
    >>> table_of(one, (1, 0), "post")
    raises NoPlace(place=(1, 0))
    >>> table_by(one, (9, 9), "rail", ())
    raises Unfit()
    >>> determinant(((1, 2), (3,)))
    raises Unfit()
'''
KINDS = ("post", "plot")
TESTED = SMALL + (ARCH, NINE, COMB)
BAD_RAILS = (
    ((0, 0),), ((1, 1),), ((9, 9),), ((1, 0), (0, 1)), ((0, 1), (0, 1)), (0, 1), ((0, 1), (1, 0), (1, 1)),
    ((0, 1, 0),), ((0, True),), [(-1, 0)],
)


def line_by_words(yard, hole, kind):
    """The LINE, as the document's words tell it."""
    x, y = hole[0] // 2, hole[1] // 2
    far = max(a for a, b in rails(yard)) // 2 + 1
    if hole[0] % 2 == 0 and kind == "plot":
        among = {(2 * k + 1, 2 * y) for k in range(x, far)}
    elif kind == "plot":
        among = {(2 * k + 1, 2 * y) for k in range(x + 1, far)}
    else:
        among = {(2 * k, 2 * y + 1) for k in range(x + 1, far)}
    return tuple(sorted(among & set(rails(yard))))


def table_by_words(yard, hole, kind, turned):
    """The TABLE, entry by entry, as the document's words tell it."""
    posts, own_rails, plots = cells_by_squares(yard)
    own = sorted((posts if kind == "post" else plots) - {hole})
    near = {w: {rail for rail in own_rails if is_beside(w, rail)} for w in own}
    rows = []
    for w in own:
        row = []
        for v in own:
            if w == v:
                row.append(len(near[w]))
            else:
                row.append(sum(1 if rail in turned else -1 for rail in near[w] & near[v]))
        rows.append(tuple(row))
    return tuple(rows)


def determinant_by_orders(table):
    """The determinant by all orders of the columns."""
    total = 0
    for order in permutations(range(len(table))):
        term = 1
        for row, column in enumerate(order):
            term *= table[row][column]
            term *= (-1) ** sum(before > column for before in order[:row])
        total += term
    return total


class TablesTest(unittest.TestCase):
    def test_examples(self):
        run_examples(self, EXAMPLES, vars(tables))

    def test_lines_and_tables_by_words(self):
        for yard in TESTED:
            for hole in all_places(yard):
                for kind in KINDS:
                    line = line_by_words(yard, hole, kind)
                    self.assertEqual(line_of(yard, hole, kind), line)
                    self.assertEqual(table_of(yard, hole, kind), table_by_words(yard, hole, kind, line))
                    self.assertEqual(plain_table(yard, hole, kind), table_by_words(yard, hole, kind, ()))

    def test_lines_over_a_bay(self):
        # From the west arm of ARCH the line goes over what is not of the yard to the next RAILS.
        self.assertEqual(line_of(ARCH, (1, 1), "post"), ((2, 1), (4, 1), (6, 1)))
        self.assertEqual(line_of(ARCH, (1, 3), "post"), ((2, 3),))
        self.assertEqual(line_of(ARCH, (0, 4), "plot"), ((1, 4), (3, 4), (5, 4)))
        self.assertEqual(line_of(COMB, (0, 2), "post"), ((2, 3), (4, 3), (6, 3), (8, 3), (10, 3)))

    def test_determinants_of_yards(self):
        for yard in TESTED + (ROW40, SNAKE40):
            plain = set()
            for hole in all_places(yard)[:: 1 if len(yard) < 20 else 17]:
                for kind in KINDS:
                    table = table_of(yard, hole, kind)
                    self.assertGreater(determinant(table), 0)
                    self.assertEqual(table, tuple(zip(*table)))
                    if kind_of(yard, hole) == "post":
                        plain.add(determinant(plain_table(yard, hole, kind)))
            self.assertEqual(len(plain), 1)

    def test_switched_lines(self):
        chance = random.Random(8)
        for yard in TESTED + (BLOCK40, grown(40, 3)):
            own = all_places(yard)
            for _ in range(6):
                hole, kind = chance.choice(own), chance.choice(KINDS)
                line, value = line_of(yard, hole, kind), determinant(table_of(yard, hole, kind))
                for place in chance.sample(own, min(5, len(own))):
                    if place != hole and kind_of(yard, place) == kind:
                        line = switched(yard, place, line)
                        self.assertEqual(determinant(table_by(yard, hole, kind, line)), value)

    def test_table_by(self):
        for yard in SMALL:
            for hole in all_places(yard):
                for kind in KINDS:
                    line = line_of(yard, hole, kind)
                    self.assertEqual(table_by(yard, hole, kind, line), table_of(yard, hole, kind))
                    self.assertEqual(table_by(yard, hole, kind, ()), plain_table(yard, hole, kind))
                    every = rails(yard)
                    wanted = table_by_words(yard, hole, kind, every)
                    self.assertEqual(table_by(yard, hole, kind, every), wanted)

    def test_switched(self):
        for yard in SMALL:
            every = rails(yard)
            for place in all_places(yard):
                at = rails_at(yard, place)
                self.assertEqual(switched(yard, place, ()), at)
                self.assertEqual(switched(yard, place, at), ())
                rest = tuple(rail for rail in every if rail not in at)
                self.assertEqual(switched(yard, place, every), rest)
                self.assertEqual(switched(yard, place, rest), every)

    def test_small_determinants(self):
        chance = random.Random(5)
        for size in range(6):
            for _ in range(60):
                high = chance.choice((1, 3, 10 ** 6, 10 ** 30))
                table = tuple(tuple(chance.randint(-high, high) for _ in range(size)) for _ in range(size))
                self.assertEqual(determinant(table), determinant_by_orders(table))

    def test_rows_to_be_changed(self):
        self.assertEqual(determinant(()), 1)
        self.assertEqual(determinant([]), 1)
        self.assertEqual(determinant(((7,),)), 7)
        self.assertEqual(determinant(((0,),)), 0)
        self.assertEqual(determinant(((-10 ** 50,),)), -10 ** 50)
        self.assertEqual(determinant(((0, 1), (1, 0))), -1)
        self.assertEqual(determinant(((0, 0, 1), (0, 1, 0), (1, 0, 0))), -1)
        self.assertEqual(determinant(((0, 0, 2), (3, 0, 0), (0, 5, 0))), 30)
        self.assertEqual(determinant(((1, 2, 3), (1, 2, 3), (4, 5, 7))), 0)
        self.assertEqual(determinant(((0, 1, 2), (0, 3, 4), (0, 5, 6))), 0)
        self.assertEqual(determinant(((1, 1, 1), (1, 1, 2), (1, 2, 1))), -1)
        self.assertEqual(determinant(((0, 0), (0, 0))), 0)

    def test_great_determinants(self):
        chance = random.Random(6)
        size = 60
        low = [[chance.randint(-9, 9) if b < a else int(a == b) for b in range(size)] for a in range(size)]
        top = [[chance.randint(-9, 9) if b > a else 0 for b in range(size)] for a in range(size)]
        wanted = 1
        for at in range(size):
            top[at][at] = chance.choice((-3, -2, -1, 1, 2, 3))
            wanted *= top[at][at]
        table = [[sum(low[a][k] * top[k][b] for k in range(size)) for b in range(size)] for a in range(size)]
        self.assertEqual(determinant(table), wanted)
        self.assertEqual(determinant(table[1:] + table[:1]), -wanted)
        table[59] = table[3]
        self.assertEqual(determinant(table), 0)

    def test_determinant_unfit(self):
        besides = (
            (1,), ((1, 2),), ((1,), (2,)), ((1, 2), (3,)), ((1, 2), (3, 4, 5)), ((1, 2), (3, "4")), ((True,),),
            ((1, 2), (3, False)), ((None,),), ((1.0,),), ("a",), ("ab", "cd"), (((1,),),), {0: (1,)}, "", {},
            ((1, 2), (3, 4), ()), ((),),
        )
        bad = [value for value in NEVER if value != ((0,),)]
        for value in bad + list(besides):
            self.assertRaises(Unfit, determinant, value)

    def test_no_place(self):
        for yard in (ONE, BEND, FAR):
            for hole in rails(yard) + ((-2, 0), (8, 8), (3, 3) if yard != BOX else (9, 9)):
                for kind in KINDS:
                    for function, args in (
                        (line_of, (kind,)), (table_of, (kind,)), (plain_table, (kind,)), (table_by, (kind, ())),
                        (switched, ((),)),
                    ):
                        self.assertEqual(outcome(function, (yard, list(hole)) + args), f"raises NoPlace(place={hole})")

    def test_unfit_ahead(self):
        no_place = (1, 0)
        for function in (line_of, table_of, plain_table):
            check_never(self, function, (ONE, no_place, "post"), 0, Unfit, ((), ((0, 0), (1, 1))))
            check_never(self, function, (ONE, no_place, "post"), 1, Unfit, ((),))
            check_never(self, function, (ONE, no_place, "post"), 2, Unfit, ("rail", "", ["post"], "Plot"))
        check_never(self, table_by, (ONE, no_place, "post", ()), 0, Unfit, ((), ((0, 0), (1, 1))))
        check_never(self, table_by, (ONE, no_place, "post", ()), 1, Unfit, ((),))
        check_never(self, table_by, (ONE, no_place, "post", ()), 2, Unfit, ("rail",))
        check_never(self, table_by, (ONE, no_place, "post", ()), 3, Unfit, BAD_RAILS)
        check_never(self, switched, (ONE, no_place, ()), 0, Unfit, ((), ((0, 0), (1, 1))))
        check_never(self, switched, (ONE, no_place, ()), 1, Unfit, ((),))
        check_never(self, switched, (ONE, no_place, ()), 2, Unfit, BAD_RAILS)
        self.assertRaises(NoPlace, switched, ONE, no_place, ())
        self.assertRaises(NoPlace, table_by, ONE, no_place, "post", ())

    def test_forms(self):
        for yard in (ONE, TWO, BEND, FAR):
            for hole in cells(yard):
                for kind in KINDS + ("rail",):
                    for name in ("line_of", "table_of", "plain_table"):
                        check_calls(self, getattr(tables, name), ("yard", "hole", "kind"), (yard, hole, kind))
                    for own in ((), rails(yard)[:2], rails(yard)):
                        names = ("yard", "hole", "kind", "rails")
                        check_calls(self, table_by, names, (yard, hole, kind, own))
                        check_calls(self, switched, ("yard", "place", "rails"), (yard, hole, own))
            check_calls(self, determinant, ("table",), (table_of(yard, cells(yard)[0], "post"),))
        check_calls(self, determinant, ("table",), ([[0, 2], [3, 4]],))


if __name__ == "__main__":
    unittest.main()
