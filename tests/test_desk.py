import random
import unittest

from holefloors import desk as module
from holefloors.desk import Desk
from holefloors.errors import BadText, NothingDone, Unfit
from tests.support import ARCH, BAD_YARDS, BEND, BLOCK40, BOX, COMB, FAR, NEVER, NINE, ONE, ROW40, SNAKE40, TWO
from tests.support import all_places, as_lists, cells_by_squares, every_floor, half_lists, hole_by_words
from tests.support import holes_by_search, kind_by_words, nested, no_floors, rings_by_walk, run_examples
from tests.support import sample_floors, search, slides_by_words

EXAMPLES = r'''
    >>> two, flat = ((0, 0), (1, 0)), (((0, 2), (0, 1)), ((1, 1), (1, 0)), ((2, 0), (2, 1)), ((2, 2), (1, 2)), ((3, 1), (3, 0)), ((4, 0), (4, 1)), ((4, 2), (3, 2)))
    >>> desk = Desk(two, flat)
    >>> desk.say("hole\nslides\nrings\ntree\nfar 4 0\nslide 2 2\nslide 1 0\ngo 4 2\nhole\nslides")
    ('0 0', '0 2', '0 0', '6', '4', 'no slide', 'no place', 'done', '4 2', '2 2, 4 0')
    >>> desk.slides_done(), desk.say("go 1 1\nfar 1 1\ngo 4 2\nslide 4 0"), len(desk.slides_done()), desk.floor()[0]
    (((0, 2), (2, 2), (4, 2)), ('never', 'never', 'done', 'done'), 4, ((0, 0), (0, 1)))
    >>> desk.undo(), desk.say("hole"), desk.redo(), desk.undo(), desk.undo()
    (3, ('4 2',), 4, 3, 0)
    >>> desk.say("hole\ngo 00 2")
    raises BadText(line=1)
    >>> other = desk.twin()
    >>> other.say("go 0 0"), other == desk, other.undo(), other.first() == flat
    (('done',), True, 0, True)
    >>> Desk(two, flat[1:])
    raises Unfit()
'''
FLAT = (
    ((0, 2), (0, 1)), ((1, 1), (1, 0)), ((2, 0), (2, 1)), ((2, 2), (1, 2)), ((3, 1), (3, 0)), ((4, 0), (4, 1)),
    ((4, 2), (3, 2)),
)
SHUT = (
    ((0, 0), (1, 0)), ((0, 2), (0, 1)), ((2, 0), (3, 0)), ((2, 2), (1, 2)), ((3, 1), (2, 1)), ((4, 0), (4, 1)),
    ((4, 2), (3, 2)),
)
ASIDE = ((7, 30), (7, 31), (8, 30))


def told_cells(cells):
    return ", ".join(f"{x} {y}" for x, y in cells) or "none"


class PlainDesk:
    """A desk by plain SLIDES, one FLOOR behind the other, all kept."""

    def __init__(self, yard, floor):
        self.yard, self.first = yard, floor
        self.done, self.undone = [], []

    def along(self):
        """All FLOORS, each behind one more SLIDE."""
        found = [self.first]
        for plan in self.done:
            for place in plan:
                found.append(dict(slides_by_words(self.yard, found[-1]))[place])
        return found

    def line(self, floor, line):
        """The answer to a line, and the PLAN that is done, or None."""
        word, *rest = line.split(" ")
        cell = tuple(int(part) for part in rest)
        if word == "hole":
            return told_cells([hole_by_words(self.yard, floor)]), None
        if word == "slides":
            return told_cells([place for place, _ in slides_by_words(self.yard, floor)]), None
        if word == "rings":
            kinds = [kind_by_words(ring[0]) for ring in rings_by_walk(floor)]
            return f"{kinds.count('post')} {kinds.count('plot')}", None
        ways = holes_by_search(self.yard, floor)
        if word == "tree":
            return str(len(ways)), None
        if cell not in all_places(self.yard):
            return "no place", None
        if word == "slide":
            fit = cell in [place for place, _ in slides_by_words(self.yard, floor)]
            return ("done", (cell,)) if fit else ("no slide", None)
        if cell not in ways:
            return "never", None
        return (str(len(ways[cell])), None) if word == "far" else ("done", ways[cell])

    def say(self, text):
        answers, plans = [], []
        kept = list(self.done)
        for line in text.split("\n"):
            answer, plan = self.line(self.along()[-1], line)
            answers.append(answer)
            if plan is not None:
                plans.append(plan)
                self.done = kept + [sum(plans, ())]
                self.undone = []
        return tuple(answers)


def some_line(yard, chance):
    word = chance.choice(("slide", "slide", "go", "far", "hole", "slides", "rings", "tree"))
    if word in ("hole", "slides", "rings", "tree"):
        return word
    posts, rails, plots = cells_by_squares(yard)
    cell = chance.choice(sorted(posts | plots) + sorted(posts | plots) + sorted(rails)[:4] + [(99, 0), (123456, 999999)])
    return f"{word} {cell[0]} {cell[1]}"


class DeskTest(unittest.TestCase):
    def test_examples(self):
        run_examples(self, EXAMPLES, vars(module))

    def same(self, desk, plain):
        """The Desk is as the plain one is."""
        along = plain.along()
        self.assertEqual((desk.yard(), desk.first(), desk.floor()), (plain.yard, along[0], along[-1]))
        self.assertEqual(desk.slides_done(), sum(plain.done, ()))

    def test_beside_plain_slides(self):
        chance = random.Random(131)
        starts = [(TWO, FLAT), (TWO, SHUT), (BOX, nested(2)), (NINE, nested(3))]
        for yard in (ONE, TWO, BEND, BOX, ASIDE, ARCH, COMB):
            starts += [(yard, floor) for floor in sample_floors(yard, 41, 5)]
        for yard, floor in starts:
            desk, plain = Desk(yard, floor), PlainDesk(yard, floor)
            for _ in range(12):
                step = chance.randrange(7)
                if step == 0:
                    self.undo(desk, plain)
                elif step == 1:
                    self.redo(desk, plain)
                else:
                    text = "\n".join(some_line(yard, chance) for _ in range(chance.randrange(1, 7)))
                    told = desk.say(text)
                    self.assertEqual(told, plain.say(text), text)
                    self.assertIs(type(told), tuple)
                self.same(desk, plain)

    def undo(self, desk, plain):
        if not plain.done:
            self.assertRaises(NothingDone, desk.undo)
            return
        plain.undone.append(plain.done.pop())
        self.assertEqual(desk.undo(), len(sum(plain.done, ())))

    def redo(self, desk, plain):
        if not plain.undone:
            self.assertRaises(NothingDone, desk.redo)
            return
        plain.done.append(plain.undone.pop())
        self.assertEqual(desk.redo(), len(sum(plain.done, ())))

    def test_great_yards(self):
        chance = random.Random(132)
        for yard in (ROW40, BLOCK40, SNAKE40):
            for floor in sample_floors(yard, 42, 60):
                desk, plain = Desk(yard, floor), PlainDesk(yard, floor)
                ways = holes_by_search(yard, floor)
                place, plan = list(ways.items())[-1]
                back = hole_by_words(yard, floor)
                text = "far {0} {1}\ngo {0} {1}\nhole\ntree\nrings\nslides\ngo {2} {3}".format(*place, *back)
                self.assertEqual(desk.say(text), plain.say(text))
                self.assertEqual(len(desk.slides_done()), 2 * len(plan))
                self.assertEqual(desk.floor(), floor)
                self.undo(desk, plain)
                for _ in range(3):
                    text = "\n".join(some_line(yard, chance) for _ in range(4))
                    self.assertEqual(desk.say(text), plain.say(text))
                    self.same(desk, plain)

    def test_answers(self):
        desk = Desk(TWO, SHUT)
        self.assertEqual(desk.say("hole\nrings\ntree\nslides\nfar 3 1\nfar 1 1"), ("1 1", "1 0", "2", "3 1", "1", "0"))
        self.assertEqual(desk.say("slide 0 1\nslide 0 0\nslide 1 1\ngo 9 9\ngo 0 0\nfar 0 0\nfar 2 1"), (
            "no place", "no slide", "no slide", "no place", "never", "never", "no place",
        ))
        self.assertEqual(desk.slides_done(), ())
        self.assertRaises(NothingDone, desk.undo)
        self.assertEqual(Desk(ONE, nested(1)).say("slides\ntree\nrings\nhole"), ("none", "1", "1 0", "1 1"))
        self.assertEqual(Desk(BOX, nested(2)).say("rings\nslides"), ("1 1", "none"))
        self.assertEqual(Desk(NINE, nested(3)).say("rings"), ("2 1",))
        # Numbers of six figures are told, but no PLACES here.
        self.assertEqual(desk.say("go 999999 0\nslide 0 999999"), ("no place", "no place"))

    def test_lines_that_are_none(self):
        desk = Desk(TWO, FLAT)
        for line in (
            "", " ", "hole ", " hole", "hole hole", "Hole", "holes", "hol", "hole 0 0", "slides 1", "tree 0 0", "rings 0",
            "go", "go 0", "go 0 0 0", "go 0  0", "go  0 0", "go 0 0 ", " go 0 0", "go 00 0", "go 0 01", "go -1 0", "go 0 -0",
            "go 0 -1", "go a b", "go 1000000 0", "go 0 1234567", "go 0000000 0", "go 0,0", "go (0, 0)", "far 0", "far", "slide",
            "slide 0", "slide 2", "go 0 0#", "go 0 0 # there", "# hole", "hole#", "undo", "redo", "say", "GO 0 0", "go 0 +0",
            "go 0.0 0", "slide 0 2 slide 0 0", "tree,", "0 0", "go 0 0x0", "far 0 0 0", "~", "go 0 1e1", "go 1_0 0", "go 0 2-",
        ):
            with self.assertRaises(BadText, msg=line) as caught:
                desk.say(line)
            self.assertEqual(caught.exception.line, 0, line)
            # Nothing of such a text is done, and what stood ahead of it stays so.
            for text, at in (("go 4 2\n" + line, 1), ("hole\nslide 0 2\n" + line + "\nnone\n", 2), (line + "\ngo 4 2", 0)):
                with self.assertRaises(BadText, msg=text) as caught:
                    desk.say(text)
                self.assertEqual(caught.exception.line, at, text)
        self.assertEqual((desk.floor(), desk.slides_done()), (FLAT, ()))
        self.assertRaises(NothingDone, desk.undo)
        for text, at in (("\n", 0), ("hole\n", 1), ("hole\n\nhole", 1), ("\n\n", 0), ("hole\nhole\n", 2)):
            with self.assertRaises(BadText) as caught:
                desk.say(text)
            self.assertEqual(caught.exception.line, at)

    def test_a_text_with_a_bad_line_leaves_what_could_be_done_once_more(self):
        desk = Desk(TWO, FLAT)
        desk.say("go 4 2")
        desk.undo()
        self.assertRaises(BadText, desk.say, "go 4 2\nup")
        self.assertEqual(desk.say("hole\nfar 0 2\ngo 1 1\nslide 4 0"), ("0 0", "1", "never", "no slide"))
        self.assertEqual(desk.redo(), 3)
        self.assertRaises(NothingDone, desk.redo)

    def test_says_taken_back_whole(self):
        desk = Desk(TWO, FLAT)
        self.assertEqual(desk.say("slide 0 2\nhole\nslide 2 2\nslide 9 9"), ("done", "0 2", "done", "no place"))
        desk.say("hole")
        self.assertEqual(desk.say("go 4 0\nslide 4 2"), ("done", "done"))
        self.assertEqual(len(desk.slides_done()), 5)
        self.assertEqual(desk.undo(), 2)
        self.assertEqual(desk.say("hole"), ("2 2",))
        self.assertEqual((desk.undo(), desk.floor()), (0, FLAT))
        self.assertRaises(NothingDone, desk.undo)
        self.assertEqual((desk.redo(), desk.redo()), (2, 5))
        self.assertRaises(NothingDone, desk.redo)
        self.assertEqual(desk.say("hole"), ("4 2",))
        desk.undo()
        desk.say("slide 0 2")
        self.assertRaises(NothingDone, desk.redo)
        self.assertEqual(desk.slides_done(), ((0, 2), (2, 2), (0, 2)))
        self.assertEqual((desk.undo(), desk.undo()), (2, 0))

    def test_done_without_a_slide(self):
        desk = Desk(TWO, FLAT)
        desk.say("go 4 2")
        desk.undo()
        # To go where the HOLE is, is done, too: it ends what could be done once more, and is taken back.
        self.assertEqual(desk.say("go 0 0"), ("done",))
        self.assertRaises(NothingDone, desk.redo)
        self.assertEqual((desk.undo(), desk.redo(), desk.undo()), (0, 0, 0))
        self.assertRaises(NothingDone, desk.undo)
        self.assertEqual(desk.redo(), 0)

    def test_twins_and_equality(self):
        desk = Desk(TWO, FLAT)
        desk.say("go 2 2")
        desk.say("go 4 2")
        desk.undo()
        twin = desk.twin()
        self.assertTrue(twin == desk and not twin != desk)
        self.assertIs(type(twin), Desk)
        self.assertEqual((twin.first(), twin.floor(), twin.yard(), twin.slides_done()), (FLAT, desk.floor(), TWO, desk.slides_done()))
        self.assertEqual(twin.redo(), 3)
        self.assertFalse(twin == desk)
        self.assertTrue(twin != desk)
        self.assertEqual(desk.say("hole"), ("2 2",))
        self.assertEqual((twin.undo(), twin.undo()), (2, 0))
        self.assertEqual(desk.slides_done(), ((0, 2), (2, 2)))
        desk.say("go 0 0\nslide 0 2\nslide 0 0")
        # The way there is no matter.
        self.assertTrue(desk == twin)
        self.assertRaises(NothingDone, desk.redo)
        self.assertEqual((twin.redo(), desk.undo(), twin == desk), (2, 2, True))
        self.assertNotEqual(Desk(TWO, FLAT), Desk(TWO, SHUT))
        # The same FLOOR, but another first one.
        other = Desk(TWO, desk.floor())
        self.assertTrue(other.floor() == desk.floor() and other != desk)
        shifted = tuple(((x + 2, y), (a + 2, b)) for (x, y), (a, b) in FLAT)
        self.assertNotEqual(Desk(TWO, FLAT), Desk(((1, 0), (2, 0)), shifted))
        for value in (None, 0, FLAT, "desk", object(), (TWO, FLAT)):
            self.assertFalse(desk == value)
            self.assertTrue(desk != value)

    def test_made_of_lists(self):
        for form in (as_lists, half_lists):
            yard, floor = form(TWO), form(FLAT)
            desk = Desk(yard, floor)
            self.assertEqual(desk, Desk(floor=FLAT, yard=TWO))
            # The Desk has copies.
            yard.append((9, 9))
            floor.clear()
            self.assertEqual((desk.yard(), desk.floor(), desk.first()), (TWO, FLAT, FLAT))
            self.assertEqual(desk.say(text="hole"), ("0 0",))
        desk.say("go 4 2")
        self.assertEqual(desk.first(), FLAT)
        self.assertIn(desk.floor(), dict(search(TWO, FLAT)))
        again = Desk(desk.yard(), desk.floor())
        self.assertEqual(again.first(), desk.floor())

    def test_unfit(self):
        for yard in NEVER + BAD_YARDS:
            for floor in (FLAT, (), None):
                self.assertRaises(Unfit, Desk, yard, floor)
        for floor in NEVER + no_floors(TWO, FLAT) + ((), FLAT[1:], nested(1)):
            self.assertRaises(Unfit, Desk, TWO, floor)

    def test_all_floors_of_one_square(self):
        for floor in every_floor(ONE):
            desk, plain = Desk(ONE, floor), PlainDesk(ONE, floor)
            for place in all_places(ONE) + [(1, 0), (3, 3)]:
                for word in ("far", "slide", "go", "go"):
                    text = f"{word} {place[0]} {place[1]}\nhole\nslides"
                    self.assertEqual(desk.say(text), plain.say(text))
                    self.same(desk, plain)


if __name__ == "__main__":
    unittest.main()
