"""What holds across all functions: lists for tuples, arguments by name, nothing changed, new lists."""

import importlib
import unittest
from itertools import product

from holefloors.arrows import never_moved, tree
from holefloors.joined import halves
from holefloors.lots import standings
from holefloors.numbered import first_floor
from holefloors.rings import rings_outward
from holefloors.slides import is_plan, slides
from holefloors.texts import picture
from tests.support import BEND, NINE, ONE, all_places, check_calls, couples_by_words, nested, outcome, sample_floors
from tests.test_interface import INTERFACE

TABLE = ((2, -1), (-1, 2))
WORDS = [("yard", 0), ("-1", 0), ("0", 2)]
THINGS = (
    None, True, 3, "post", (0, 0), [0, 0], (), ((0, 2),), ((0, 0), (0, 1)), (((0, 0), (0, 1)),), [[(0, 0), (0, 1)]],
    ("kinds", (0, 0), (1, 1)), ("twice", (0, 0)), ((0, 0), (0, 2), (2, 2), (2, 0)), ((0, 0),),
)


def demands(yard, floor, place):
    """DEMANDS about a FLOOR, and what is none."""
    return (
        ("free", yard, floor), ("come", yard, floor, place), ("come", yard, floor, (1, 1)), ("apart", yard, floor, floor),
        ("fewest", yard, floor, tree(yard, floor)[-1], 1), ("many", yard, place, 0), ("many", yard, (1, 1), 10 ** 9), ("free",),
    )


def beside(yard):
    """A YARD of one SQUARE, side by side with another one."""
    east = max(x for x, _ in yard)
    return ((east + 1, min(y for x, y in yard if x == east)),)


def values(module, name, yard, floor):
    """What to pass as the argument of this name, for a YARD and a FLOOR of it: fit, nearly fit, unfit."""
    places = slides(yard, floor)[:1] + (tree(yard, floor)[-1], (1, 1), (1, 0), (0, True))
    if name == "other":
        if module == "fewest":
            return places
        if module == "mirrored":
            return (BEND, yard, floor)
        if module == "joined":
            return (beside(yard), yard)
        return (standings(yard, floor)[0][1], floor, sample_floors(yard, 9)[1], floor[1:])
    if module == "joined" and name in ("floor", "other_floor"):
        whole = tuple(sorted(yard + beside(yard)))
        part, rest = halves(yard, beside(yard), first_floor(whole, all_places(yard)[-1]))
        return (part, floor, first_floor(whole, (1, 1))) if name == "floor" else (rest, floor)
    return {
        "yard": (yard,),
        "floor": (floor,),
        "place": places, "hole": places, "cell": places,
        "rail": ((1, 0), (0, 1), (1, 1), (2, 1)),
        "square": (yard[0], (yard[0][0] + 1, yard[0][1]), (-1, 0)),
        "squares": (yard, yard[::-1], ()),
        "couple": (floor[0], couples_by_words(yard)[-1], floor[0][::-1]),
        "couples": (floor, never_moved(yard, floor), (), floor[:2] + floor[:1]),
        "rails": (((1, 0),), (), ((0, 1), (1, 0)), ((1, 0), (0, 1))),
        "kind": ("post", "plot", "rail"),
        "number": (0, 3, 1, 8), "many": (1, 2, 0), "high": (2, 3),
        "plan": (slides(yard, floor)[:1], (), (places[0],), ((1, 0),)),
        "ring": tuple(rings_outward(yard, floor)) + ((),),
        "still": (never_moved(yard, floor), ()),
        "others": ((floor, floor), (), (floor, ())),
        "told": (floor[1:3], couples_by_words(yard)[:2], tuple(own for own in floor if own[0][0] % 2), floor[1::-1]),
        "demand": demands(yard, floor, places[0]), "demands": (demands(yard, floor, places[1])[:-1], (), ((),)),
        "sheet": ((yard, None, ()), (yard, places[0], floor), (yard, (1, 0), ())),
        "table": (TABLE, (), ((1,), (2,))),
        "words": (WORDS, [], [("a", 1), ("b", 0)]),
        "word": ("12", "-0"),
        "text": ("yard -1 0 # a remark\n2", "A", "square 0 0\nhole 1 1\n", "><v\nvo^\n^><\n", picture(yard, floor)),
        "thing": THINGS + (floor, list(floor), yard, never_moved(yard, floor)) + tuple(rings_outward(yard, floor)),
    }[name]


class GeneralTest(unittest.TestCase):
    def floors(self):
        found = [(NINE, nested(3)), (ONE, nested(1))]
        for at, yard in enumerate((ONE, BEND)):
            found += [(yard, floor) for floor in sample_floors(yard, 800 + at, 6)]
        return found

    def calls(self):
        """Each function, with all that is to be passed in: (function, argument names, arguments)."""
        for name, told in INTERFACE.items():
            module = importlib.import_module("holefloors." + name)
            for part in told.split():
                function_name, arguments = part[:-1].split("(")
                names = arguments.split(",")
                done = set()
                for yard, floor in self.floors():
                    for args in product(*[values(name, own, yard, floor) for own in names]):
                        if repr(args) not in done:
                            done.add(repr(args))
                            yield getattr(module, function_name), names, args

    def test_calls_in_all_forms(self):
        every, answered = set(), set()
        for function, names, args in self.calls():
            told = check_calls(self, function, names, args)
            every.add(function)
            if not told.startswith("raises"):
                answered.add(function)
                self.assertEqual(repr(function(*args)), told)
            if names[-1] == "thing" and not told.startswith("raises"):
                self.assertIn(told, ("True", "False"))
        self.assertEqual(every - answered, set())
        self.assertEqual(len(every), sum(len(told.split()) for told in INTERFACE.values()))

    def test_what_is_returned_is_passed_in_again(self):
        for yard, floor in self.floors():
            for _, own in standings(yard, floor):
                self.assertFalse(outcome(tree, (yard, own)).startswith("raises"))
                self.assertEqual(standings(yard, own), standings(yard, floor))
            self.assertIs(is_plan(yard, floor, slides(yard, floor)[:1]), True)


if __name__ == "__main__":
    unittest.main()
