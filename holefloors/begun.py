"""How many FLOORS there are as one POST after the other is given its RAIL."""

from holefloors.lines import line_rails, many_by_number, rails_of_places, row_by_rails, table_by_rails


def _times(row, other):
    """The products of the numbers of two rows, added up."""
    return sum([mine * its for mine, its in zip(row, other) if mine != 0])


def _replaced(whole, alone, own, row):
    """The rows of alone, as Begun has them, once the row to which own belongs is another one."""
    number = _times(row, own)
    found = []
    for its in alone:
        times = _times(row, its)
        # A determinant of whole numbers, so the division leaves no rest.
        found.append([(number * entry - times * part) // whole for entry, part in zip(its, own)])
    return found


class Begun:
    """How many FLOORS with one HOLE have the RAILS that the first POSTS, ascending, have been given so far."""

    def __init__(self, near, hole):
        rails = rails_of_places(near, hole, "post")
        self._hole = hole
        self._posts = list(rails)
        self._line = line_rails(near, hole, "post")
        self._given = 0
        # _whole is the determinant of a table; _alone has, for each of its rows that may still be another one and
        # for each column, the determinant if that row had a 1 in that column and 0 else. The table begins with a
        # diagonal of 1 and comes to be the TABLE row by row: its determinant is above 0 all the way.
        self._whole = 1
        self._alone = [[1 if at == other else 0 for other in range(len(rails))] for at in range(len(rails))]
        for at, row in enumerate(table_by_rails(rails, self._line)):
            own = self._alone[at]
            number = _times(row, own)
            self._alone = _replaced(self._whole, self._alone, own, row)
            self._alone[at] = own
            self._whole = number

    def _row(self, rail):
        """The row that the next POST has with this RAIL."""
        return row_by_rails(self._posts, self._posts[self._given], (rail,), self._line)

    def posts(self):
        """The list of all POSTS that are given a RAIL."""
        return list(self._posts)

    def many(self):
        """How many FLOORS there are."""
        return many_by_number(self._hole, "post", self._whole)

    def many_with_rail(self, rail):
        """How many there are with this RAIL for the next POST."""
        return many_by_number(self._hole, "post", _times(self._row(rail), self._alone[0]))

    def give(self, rail):
        """Gives the next POST a RAIL with which there are some."""
        row = self._row(rail)
        own = self._alone[0]
        self._alone = _replaced(self._whole, self._alone[1:], own, row)
        self._whole = _times(row, own)
        self._given += 1
