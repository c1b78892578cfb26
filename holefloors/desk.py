"""A desk: a FLOOR worked by lines of text."""

from holefloors.arrows import tree
from holefloors.cells import is_place
from holefloors.errors import BadText, NothingDone
from holefloors.fewest import plan_to
from holefloors.fits import fit_floor, fit_map, fit_yard
from holefloors.floors import hole_of
from holefloors.rings import rings
from holefloors.signs import number_of, word_of
from holefloors.slides import behind, slides

TO_A_CELL = ("slide", "go", "far")
ALONE = ("hole", "slides", "rings", "tree")
MOST_FIGURES = 6


def _read_number(word):
    """The number from 0 that a word tells; None if it is none."""
    return None if len(word) > MOST_FIGURES or word.startswith("-") else number_of(word)


def _read_line(at, line):
    """The word of a line, and the CELL told behind it, None without one."""
    word, *rest = line.split(" ")
    numbers = [_read_number(part) for part in rest]
    if word in ALONE and not rest:
        return (word, None)
    if word in TO_A_CELL and len(rest) == 2 and None not in numbers:
        return (word, tuple(numbers))
    raise BadText(at)


def _cells_told(cells):
    """CELLS as an answer tells them."""
    told = ", ".join([f"{east} {north}" for east, north in cells])
    return told if told else "none"


def _told(yard, floor, word):
    """The answer to a line that asks about the FLOOR."""
    if word == "hole":
        return _cells_told((hole_of(yard, floor),))
    if word == "slides":
        return _cells_told(slides(yard, floor))
    if word == "rings":
        return " ".join([word_of(len(rings(yard, floor, kind))) for kind in ("post", "plot")])
    return word_of(len(tree(yard, floor)))


def _answered(yard, floor, word, cell):
    """The answer to a line, and the PLAN that is done by it, None if nothing is."""
    if cell is None:
        return (_told(yard, floor, word), None)
    if not is_place(yard, cell):
        return ("no place", None)
    if word == "slide":
        return ("done", (cell,)) if cell in slides(yard, floor) else ("no slide", None)
    if cell not in tree(yard, floor):
        return ("never", None)
    plan = plan_to(yard, floor, cell)
    return ("done", plan) if word == "go" else (word_of(len(plan)), None)


class Desk:
    """A FLOOR of a YARD, worked by lines of text."""

    def __init__(self, yard, floor):
        self._yard = fit_yard(yard)
        self._first = fit_floor(fit_map(yard), floor)
        self._floor = self._first
        # The PLANS of the says by which something was done, one each: those that stand, those taken back.
        self._done = []
        self._undone = []

    def say(self, text):
        """The tuple of the answers to the lines of a text, one by one in order."""
        asked = [_read_line(at, line) for at, line in enumerate(text.split("\n"))]
        answers = []
        plans = []
        for word, cell in asked:
            answer, plan = _answered(self._yard, self._floor, word, cell)
            answers.append(answer)
            if plan is not None:
                plans.append(plan)
                self._floor = behind(self._yard, self._floor, plan)
        if plans:
            self._done.append(tuple([place for plan in plans for place in plan]))
            self._undone = []
        return tuple(answers)

    def yard(self):
        """The YARD."""
        return self._yard

    def floor(self):
        """The FLOOR as it is now."""
        return self._floor

    def first(self):
        """The FLOOR as it was at the beginning."""
        return self._first

    def slides_done(self):
        """The PLAN of all SLIDES done from the first FLOOR and not taken back."""
        return tuple([place for plan in self._done for place in plan])

    def undo(self):
        """Takes back the last say by which something was done: how many SLIDES are done then."""
        if not self._done:
            raise NothingDone()
        self._undone.append(self._done.pop())
        return self._moved_on()

    def redo(self):
        """Does once more what undo took back last: how many SLIDES are done then."""
        if not self._undone:
            raise NothingDone()
        self._done.append(self._undone.pop())
        return self._moved_on()

    def _moved_on(self):
        """Brings the FLOOR to where the SLIDES done lead: how many they are."""
        plan = self.slides_done()
        self._floor = behind(self._yard, self._first, plan)
        return len(plan)

    def twin(self):
        """Another Desk like this one, with all that could be taken back, and done once more."""
        other = Desk(self._yard, self._first)
        other._floor = self._floor
        other._done = list(self._done)
        other._undone = list(self._undone)
        return other

    def __eq__(self, other):
        """Whether both have one YARD, one first FLOOR and one FLOOR."""
        if not isinstance(other, Desk):
            return False
        return self._yard == other._yard and self._first == other._first and self._floor == other._floor
