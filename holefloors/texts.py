"""SHEETS told by rows of words, and FLOORS told by pictures."""

from holefloors.errors import BadText, CanNot, Unfit
from holefloors.fits import floor_or_none, is_square_pair, map_and_floor, place_or_none
from holefloors.fits import yard_or_none
from holefloors.ground import cell_map, hole_in, is_couple_in, is_place_in, square_of
from holefloors.shapes import as_couples, is_ascending
from holefloors.signs import number_of, text_of, word_of, words

STEPS = {">": (1, 0), "^": (0, 1), "<": (-1, 0), "v": (0, -1)}
PICTURE_SIGNS = "o>^<v."


def _sheet_or_none(value):
    """The SHEET that value is, if need be with lists for tuples; None if it is none."""
    if not isinstance(value, (list, tuple)) or len(value) != 3:
        return None
    yard = yard_or_none(value[0])
    couples = as_couples(value[2])
    if yard is None or couples is None or not is_ascending(couples):
        return None
    near = cell_map(yard)
    hole = place_or_none(near, value[1])
    if hole is None and value[1] is not None:
        return None
    return (yard, hole, couples) if all([is_couple_in(near, couple) for couple in couples]) else None


def is_sheet(thing):
    """Whether thing is a SHEET."""
    sheet = _sheet_or_none(thing)
    # A list is never equal to the tuple that was made of it.
    return sheet is not None and sheet == thing


def _row(word, numbers):
    """The words of a row."""
    return [word] + [word_of(number) for number in numbers]


def sheet_text(sheet):
    """The text of a SHEET."""
    told = _sheet_or_none(sheet)
    if told is None:
        raise Unfit()
    yard, hole, couples = told
    rows = [_row("square", square) for square in yard]
    if hole is not None:
        rows.append(_row("hole", hole))
    rows.extend([_row("couple", place + rail) for place, rail in couples])
    return text_of([(word, line) for line, row in enumerate(rows) for word in row])


def _rows_of(text):
    """The rows of a text: a list of pairs (line, words)."""
    by_line = {}
    for word, line in words(text):
        by_line.setdefault(line, []).append(word)
    return list(by_line.items())


def _numbers(line, row, word, many):
    """The numbers of a row that is to begin with this word and to have so many of them."""
    found = [number_of(part) for part in row[1:]]
    if row[0] != word or len(found) != many or None in found:
        raise BadText(line)
    return tuple(found)


def _read_squares(rows):
    """The tuple of the SQUARES that rows tell."""
    squares = []
    for line, row in rows:
        square = _numbers(line, row, "square", 2)
        if not is_square_pair(square) or (squares and square <= squares[-1]):
            raise BadText(line)
        squares.append(square)
    return tuple(squares)


def _read_couples(near, rows):
    """The TOLD that rows tell."""
    couples = []
    for line, row in rows:
        east, north, rail_east, rail_north = _numbers(line, row, "couple", 4)
        couple = ((east, north), (rail_east, rail_north))
        if not is_couple_in(near, couple) or (couples and couple <= couples[-1]):
            raise BadText(line)
        couples.append(couple)
    return tuple(couples)


def read_sheet(text):
    """The SHEET that a text tells."""
    rows = _rows_of(text)
    if not rows:
        raise BadText(0)
    many = 0
    while many < len(rows) and rows[many][1][0] == "square":
        many += 1
    yard = yard_or_none(_read_squares(rows[:many]))
    if yard is None:
        raise BadText(rows[many][0] if many < len(rows) else rows[-1][0])
    near = cell_map(yard)
    rest = rows[many:]
    hole = None
    if rest and rest[0][1][0] == "hole":
        line, row = rest[0]
        hole = _numbers(line, row, "hole", 2)
        if not is_place_in(near, hole):
            raise BadText(line)
        rest = rest[1:]
    return (yard, hole, _read_couples(near, rest))


def yard_text(yard):
    """The text of the SHEET of a YARD alone."""
    return sheet_text((yard, None, ()))


def read_yard(text):
    """The YARD of the SHEET that a text tells."""
    return read_sheet(text)[0]


def picture(yard, floor):
    """The picture of a FLOOR."""
    near, own = map_and_floor(yard, floor)
    sign_of_step = {step: sign for sign, step in STEPS.items()}
    signs = {hole_in(near, own): "o"}
    for (east, north), (rail_east, rail_north) in own:
        signs[(east, north)] = sign_of_step[(rail_east - east, rail_north - north)]
        signs[(rail_east, rail_north)] = sign_of_step[(east - rail_east, north - rail_north)]
    wide = max([east for east, north in near])
    high = max([north for east, north in near])
    lines = ["".join([signs.get((east, north), ".") for east in range(wide + 1)]) for north in range(high, -1, -1)]
    return "\n".join(lines) + "\n"


def _picture_lines(text):
    """The lines of a text that may be a picture."""
    lines = text.split("\n")
    ended = lines[-1] == "" and len(lines) > 1
    if ended:
        lines.pop()
    for at, line in enumerate(list(lines)):
        if line == "" or len(line) != len(lines[0]) or not all([sign in PICTURE_SIGNS for sign in line]):
            raise BadText(at)
    if not ended:
        raise BadText(len(lines) - 1)
    return lines


def _cell_beside(cell, sign):
    """The CELL to which a sign of a picture leads."""
    east, north = STEPS[sign]
    return (cell[0] + east, cell[1] + north)


def read_picture(text):
    """The pair (yard, floor) with this picture."""
    lines = _picture_lines(text)
    signs = {
        (east, north): sign
        for north, line in enumerate(lines[::-1]) for east, sign in enumerate(line) if sign != "."
    }
    plots = [(east, north) for east, north in signs if east % 2 == 1 and north % 2 == 1]
    yard = yard_or_none(tuple(sorted([square_of(plot) for plot in plots])))
    if yard is None:
        raise CanNot()
    near = cell_map(yard)
    places = [place for place, sign in signs.items() if is_place_in(near, place) and sign != "o"]
    couples = [(place, _cell_beside(place, signs[place])) for place in places]
    floor = floor_or_none(near, sorted(couples))
    # Signs of RAILS have not been looked at, nor signs outside of the YARD.
    if floor is None or picture(yard, floor) != text:
        raise CanNot()
    return (yard, floor)
