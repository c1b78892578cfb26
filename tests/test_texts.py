import random
import unittest

from holefloors import texts as module
from holefloors.errors import BadText, CanNot, Unfit
from holefloors.texts import is_sheet, picture, read_picture, read_sheet, read_yard, sheet_text, yard_text
from holefloors.yards import boxed
from tests.support import ARCH, BAD_YARDS, BEND, BLOCK40, BOX, COMB, CROSS, FAR, FEW, NEVER, NINE, OBLONG, ONE, ROW14
from tests.support import ROW40, SNAKE40, STAIRS, TWO, all_places, as_lists, cells_by_squares, check_calls, check_never
from tests.support import couples_by_words, every_floor, grown, half_lists, hole_by_words, nested, no_floors, outcome
from tests.support import run_examples, sample_floors

EXAMPLES = r'''
    square n n      hole n n      couple n n n n
    >>> one, gone = ((0, 0),), (((0, 0), (0, 1)), ((0, 2), (1, 2)), ((2, 0), (1, 0)), ((2, 2), (2, 1)))
    >>> picture(one, gone), read_picture('><v\nvo^\n^><\n') == (one, gone)
    ('><v\nvo^\n^><\n', True)
    >>> two = ((0, 0), (1, 0))
    >>> sheet_text((two, (1, 1), (((0, 0), (1, 0)), ((3, 1), (3, 2)))))
    'square 0 0\nsquare 1 0\nhole 1 1\ncouple 0 0 1 0\ncouple 3 1 3 2\n'
    >>> read_sheet(sheet_text((one, (1, 1), gone))) == (one, (1, 1), gone), read_yard("square 2 3 # alone\n\n"), yard_text(((2, 3),))
    (True, ((2, 3),), 'square 2 3\n')
    >>> is_sheet((two, None, ())), is_sheet((two, (1, 0), ())), is_sheet((two, (1, 1), (((0, 0), (2, 0)),))), is_sheet([two, None, ()])
    (True, False, False, False)
    >>> picture(((1, 0),), tuple([((x + 2, y), (a + 2, b)) for (x, y), (a, b) in gone]))
    '..><v\n..vo^\n..^><\n'
    >>> read_sheet("square 0 0\nsquare 2 0\nhole 0 0")
    raises BadText(line=2)
    >>> read_picture("o\n..\n")
    raises BadText(line=1)
    >>> read_picture("o<\n")
    raises CanNot()
'''
RING = (((0, 0), (0, 1)), ((0, 2), (1, 2)), ((2, 0), (1, 0)), ((2, 2), (2, 1)))
WAYS = {(1, 0): ">", (0, 1): "^", (-1, 0): "<", (0, -1): "v"}
GREAT = (ROW14, ROW40, BLOCK40, SNAKE40, grown(40, 151))


def picture_by_words(yard, floor):
    every = sorted(set().union(*cells_by_squares(yard)))
    mates = {own: other for couple in floor for own, other in (couple, couple[::-1])}
    hole = hole_by_words(yard, floor)
    lines = []
    for y in range(max(y for _, y in every), -1, -1):
        line = ""
        for x in range(max(x for x, _ in every) + 1):
            if (x, y) == hole:
                line += "o"
            elif (x, y) in mates:
                line += WAYS[(mates[(x, y)][0] - x, mates[(x, y)][1] - y)]
            else:
                line += "."
        lines.append(line + "\n")
    return "".join(lines)


def text_by_words(sheet):
    yard, hole, told = sheet
    rows = [("square",) + square for square in yard]
    rows += [("hole",) + hole] if hole else []
    rows += [("couple",) + place + rail for place, rail in told]
    return "".join(" ".join(str(part) for part in row) + "\n" for row in rows)


def some_sheets():
    chance = random.Random(91)
    found = []
    for yard in FEW + (FAR, ARCH, STAIRS, CROSS, COMB, NINE) + GREAT:
        every = couples_by_words(yard)
        hole = chance.choice(all_places(yard))
        floor = sample_floors(yard, 5, 40)[0]
        for told in ((), floor, tuple(every), (every[0],), (every[-1],), tuple(sorted(chance.sample(every, 3)))):
            found += [(yard, None, told), (yard, hole, told)]
    return found


def other_blanks(text, chance):
    """The same words in the same order, a row a line: more blanks, remarks, lines without words."""
    lines = []
    for line in text.split("\n"):
        while chance.randrange(3) == 0:
            lines.append(chance.choice(("", "   ", "# a remark: square 9 9", "  #", "#%&'()*+,./:;<=>?@[]^_`{|}~ABC")))
        words = line.split(" ")
        line = " " * chance.randrange(3) + (" " * chance.randrange(1, 4)).join(words) + " " * chance.randrange(3)
        lines.append(line + chance.choice(("", "#", "# Hole 1 1", " #couple")))
    return "\n".join(lines)


class TextsTest(unittest.TestCase):
    def test_examples(self):
        run_examples(self, EXAMPLES, vars(module))

    def bad(self, function, text, line):
        self.assertEqual(outcome(function, (text,)), f"raises BadText(line={line})", text)

    def bad_sheet(self, text, line):
        self.bad(read_sheet, text, line)
        self.bad(read_yard, text, line)

    def test_sheets_there_and_back(self):
        chance = random.Random(92)
        for sheet in some_sheets():
            self.assertIs(is_sheet(sheet), True)
            text = sheet_text(sheet)
            self.assertEqual(text, text_by_words(sheet))
            self.assertEqual(read_sheet(text), sheet)
            self.assertEqual(read_yard(text), sheet[0])
            self.assertEqual(yard_text(sheet[0]), text_by_words((sheet[0], None, ())))
            self.assertEqual(read_sheet(yard_text(sheet[0])), (sheet[0], None, ()))
            for form in (text[:-1], text + "\n\n", "\n" + text, "# first\n \n" + text, other_blanks(text, chance)):
                self.assertEqual(read_sheet(form), sheet, form)
                self.assertEqual(read_yard(form), sheet[0])

    def test_great_numbers(self):
        most = 10 ** 12 - 1
        for yard in (((most, most),), ((most, 0),), ((0, most),)):
            self.assertEqual(read_sheet(sheet_text((yard, None, ()))), (yard, None, ()))
        half = 499999999999
        sheet = (((half - 1, 7), (half, 7)), (2 * half + 1, 15), (((2 * half, 14), (2 * half + 1, 14)),))
        self.assertEqual(read_sheet(sheet_text(sheet)), sheet)
        self.bad_sheet("square 1000000000000 0", 0)

    def test_texts_without_rows(self):
        for text in ("", "\n", " ", "\n\n  \n", "# all remarks\n  # square 0 0\n"):
            self.bad_sheet(text, 0)

    def test_faults_of_signs_come_first(self):
        for text, line in (
            ("square 0 0\nsquare 5 5\nhole 1 1\nA", 3), ("nothing\n\nhole 1.1", 2), ("Square 0 0", 0), ("square 0,0", 0),
            ("square 0 0\n\t", 1), ("hole\n# fine?\n!\n?", 2),
        ):
            self.bad_sheet(text, line)

    def test_rows_not_as_told(self):
        for row in (
            "square", "square 0", "square 0 0 0", "square 0 0 hole 1 1", "square 00 0", "square 0 -0", "square 01 0",
            "square a 0", "square 0 -1", "square -1 0", "squares 0 0", "hole 1 1", "couple 0 0 1 0", "0 0", "-",
            "square square 0", "yard 0 0", "squar", "square 0 1234567890123", "square -0 0", "square 0 1-",
        ):
            self.bad_sheet(row, 0)
            self.bad_sheet("\n # none\n" + row + "\nsquare 0 0", 2)
            if row not in ("hole 1 1", "couple 0 0 1 0"):
                self.bad_sheet("square 0 0\n" + row + "\nhole 1 1", 1)
        for row in (
            "hole", "hole 1", "hole 1 1 1", "hole 01 1", "hole 1 0", "hole 3 3", "hole -1 1", "hole -1 -1", "hole a b",
            "hole 0 -0", "couple 0 0 1", "couple 0 0 1 0 0", "couple 1 0 0 0", "couple 0 0 1 1", "couple 0 0 -1 0",
            "couple 4 0 3 0", "couple 0 0 2 0", "couple 0 0 1 00", "couple", "couple 0 0 0 0", "couple -1 1 0 1",
        ):
            self.bad_sheet("square 0 0\n" + row, 1)
            self.bad_sheet("square 0 0\n\n#\n" + row + "\nfoo", 3)
            if row.startswith("couple"):
                self.bad_sheet("square 0 0\nhole 0 0\n" + row, 2)
                self.bad_sheet("square 0 0\ncouple 0 0 0 1\n" + row, 2)

    def test_rows_that_can_not_stand_there(self):
        for text, line in (
            ("square 0 0\nsquare 0 0", 1), ("square 0 1\nsquare 0 0\nsquare 1 0", 1), ("square 1 0\nsquare 0 5", 1),
            ("square 0 0\nhole 1 1\nsquare 1 0", 2), ("square 0 0\ncouple 0 0 1 0\nsquare 1 0", 2),
            ("square 0 0\nhole 1 1\nhole 1 1", 2), ("square 0 0\nhole 1 1\nhole 0 0", 2),
            ("square 0 0\ncouple 0 0 1 0\nhole 0 2", 2), ("square 0 0\nhole 1 1\ncouple 0 0 1 0\nhole 1 1", 3),
            ("square 0 0\ncouple 0 0 1 0\ncouple 0 0 1 0", 2), ("square 0 0\ncouple 0 0 1 0\ncouple 0 0 0 1", 2),
            ("square 0 0\ncouple 2 2 2 1\ncouple 0 2 1 2\nfoo", 2),
            ("square 0 0\nsquare 0 0\nhole 1 1", 1), ("square 0 0\nsquare 1 0\nsquare 0 1\nhole 1 1", 2),
            ("square 0 0\nsquare 0 1\nsquare 0 0\nsquare 1 0\nhole 1 1", 2),
            ("square 0 0\ncouple 0 0 0 1\ncouple 2 0 1 0\ncouple 0 2 0 1\ncouple 2 2 2 1", 3), ("square 0 0\ncouple 0 0 0 1\n\nsquare 0 0", 3),
        ):
            self.bad_sheet(text, line)
        # A COUPLE of another YARD, a HOLE of another one.
        self.bad_sheet("square 0 0\nhole 1 1\ncouple 0 0 1 0\ncouple 2 0 3 0", 3)
        self.bad_sheet("square 2 3\nhole 1 1", 1)
        self.assertEqual(read_sheet("square 2 3\nhole 5 7")[1], (5, 7))

    def test_squares_that_are_no_yard(self):
        ring = [(x, y) for x in range(3) for y in range(3) if (x, y) != (1, 1)]
        for squares in ([(0, 0), (2, 0)], [(0, 0), (1, 1)], ring, [(0, 0), (0, 1), (5, 5)]):
            rows = ["square {} {}".format(*square) for square in squares]
            text = "\n".join(rows)
            self.bad_sheet(text, len(rows) - 1)
            self.bad_sheet(text + "\n\n# the end\n", len(rows) - 1)
            for row in ("hole 0 0", "couple 0 0 1 0", "hole 77 0", "foo", "hole", "# \ncouple", "\nhole 1 1"):
                line = len(rows) + row.count("\n")
                self.bad_sheet(text + "\n" + row, line)
                self.bad_sheet(text + "\n" + row + "\nbar 1\nsquare 0 0", line)
            # A fault among the SQUARES comes ahead of this.
            self.bad_sheet(text + "\nsquare 0 0\nhole 0 0", len(rows))

    def test_pictures_there_and_back(self):
        chance = [(ONE, own) for own in every_floor(ONE)] + [(TWO, own) for own in every_floor(TWO)[::3]]
        for yard in (BEND, ARCH, STAIRS, CROSS, COMB, NINE, OBLONG) + GREAT:
            chance += [(yard, floor) for floor in sample_floors(yard, 6, 1 if len(yard) < 10 else 30)]
        chance += [(boxed(many, many), nested(many)) for many in range(1, 7)]
        for yard, floor in chance:
            text = picture(yard, floor)
            self.assertEqual(text, picture_by_words(yard, floor))
            self.assertEqual(read_picture(text), (yard, floor))

    def test_pictures_spoilt(self):
        chance = random.Random(93)
        for yard, floor in ((ONE, RING), (((1, 0),), None), (BEND, None), (CROSS, None), (NINE, nested(3))):
            floor = floor or sample_floors(yard, 7, 3)[0]
            text = picture(yard, floor)
            for at in range(len(text)):
                if text[at] == "\n":
                    continue
                for sign in "o>^<v.":
                    spoilt = text[:at] + sign + text[at + 1:]
                    if sign != text[at]:
                        self.check_by_trying(spoilt)
                spoilt = text[:at] + chance.choice(" aO*0x:,V") + text[at + 1:]
                self.bad(read_picture, spoilt, text[:at].count("\n"))
            for more in ("." + text.replace("\n", "\n.")[:-1], text.replace("\n", ".\n")):
                self.assertRaises(CanNot, read_picture, more)
            self.assertRaises(CanNot, read_picture, "." * text.index("\n") + "\n" + text)

    def check_by_trying(self, text):
        """What is read of a text, if anything is, has this picture."""
        try:
            yard, floor = read_picture(text)
        except CanNot:
            return
        self.assertEqual(picture_by_words(yard, floor), text)

    def test_no_pictures(self):
        for text in (
            "o\n", ".\n", "...\n", "><\n", "o<\n", "...\n...\n...\n", "><v\nv.^\n^><\n", "><v\nvo^\n^>o\n",
            "><v\nvov\n^><\n", "o<v\nv>^\n^><\n", "><v..\nvo^..\n^><..\n", "...\n><v\nvo^\n^><\n", "><v><v\nvo^vo^\n^><^><\n",
            "ooo\nooo\nooo\n", ">>>\n>>>\n>>>\n", "><vo\nvo^.\n^><.\n", "><v.\nvo^.\n^><o\n",
        ):
            self.assertRaises(CanNot, read_picture, text)

    def test_pictures_not_as_told(self):
        for text, line in (
            ("", 0), ("\n", 0), ("\no\n", 0), ("o", 0), ("o\n\n", 1), ("><v\nvo^\n^><", 2), ("><v\nvo^\n^><\n\n", 3),
            ("><v\nvo^\n^>\n", 2), ("><v\nvo^\n^><.\n", 2), ("><v\nvo\n^><", 1), ("a", 0), ("o\na", 1), ("o\noo", 1),
            ("><v\nv o\n^><\n", 1), ("><v\n\n^><\n", 1), ("oo\no\noo\no", 1), ("o#\n", 0), ("o\n.\n#", 2), (" \n", 0),
            ("><v\nvo^\n ^><\n", 2), ("o\n.", 1), ("o\n.\n.\n.", 3), ("\n\n", 0), ("v\n^\nA\n", 2),
        ):
            self.bad(read_picture, text, line)

    def test_things(self):
        sheet = (TWO, (1, 1), (((0, 0), (1, 0)), ((3, 1), (3, 2))))
        self.assertIs(is_sheet(sheet), True)
        yard, hole, told = sheet
        for thing in NEVER + (
            (), list(sheet), as_lists(sheet), half_lists(sheet), (list(yard), hole, told), (yard, list(hole), told),
            (yard, hole, list(told)), (as_lists(yard), None, ()), (yard, hole, (list(told[0]), told[1])), sheet[:2],
            sheet + ((),), (sheet,), (yard, hole, told[::-1]), (yard, hole, told[:1] * 2), (yard, hole, told[0]),
            (yard, hole, None), (yard, None, None), (yard, (), told), (yard, False, told), (yard, 0, told), (None, None, ()),
            (yard, hole, (((0, 0), (1, 1)),)), (yard, hole, (((1, 0), (0, 0)),)), (yard, (True, 1), told), (yard, None, []),
            ((), None, ()), (yard[::-1], hole, told), (yard, hole, (((0, False), (1, 0)),)), (yard, (1, 0), told),
            (yard, (9, 9), told), (yard, hole, (((8, 8), (8, 9)),)), sheet[::-1], (yard, (1, 1, 1), ()), (yard, "", ()),
        ):
            self.assertIs(is_sheet(thing), False, thing)
        for bad in BAD_YARDS:
            self.assertIs(is_sheet((bad, None, ())), False)
        self.assertIs(is_sheet((FAR, None, ())), True)

    def test_errors(self):
        bad = ((), (TWO,), (TWO, None), (TWO, (1, 0), ()), (TWO, None, ((0, 0), (1, 0))), (BAD_YARDS[1], None, ()))
        check_never(self, sheet_text, ((ONE, None, ()),), 0, Unfit, bad)
        check_never(self, yard_text, (ONE,), 0, Unfit, BAD_YARDS)
        for floor in (RING, RING[1:]):
            check_never(self, picture, (ONE, floor), 0, Unfit, BAD_YARDS)
        check_never(self, picture, (ONE, RING), 1, Unfit, no_floors(ONE, RING) + ((),))
        self.assertRaises(BadText, read_sheet, "square 0 0\nhole 1 0")

    def test_forms(self):
        for sheet in some_sheets()[:20]:
            check_calls(self, sheet_text, ("sheet",), (sheet,))
            check_calls(self, yard_text, ("yard",), (sheet[0],))
            for function in (read_sheet, read_yard):
                check_calls(self, function, ("text",), (sheet_text(sheet),))
        for yard in (ONE, BEND, CROSS):
            for floor in sample_floors(yard, 8, 4):
                check_calls(self, picture, ("yard", "floor"), (yard, floor))
                check_calls(self, read_picture, ("text",), (picture(yard, floor),))
        self.assertEqual(sheet_text(sheet=[[[0, 0]], None, []]), "square 0 0\n")
        self.assertEqual(sheet_text(as_lists((ONE, (1, 1), RING))), sheet_text((ONE, (1, 1), RING)))
        self.assertIs(is_sheet(thing=(ONE, (1, 1), RING)), True)


if __name__ == "__main__":
    unittest.main()
