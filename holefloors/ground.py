"""SQUARES and CELLS, as they lie. All functions here take what has been checked."""


def around(pair):
    """The four pairs that differ from pair by 1 in just one number, ascending."""
    east, north = pair
    return ((east - 1, north), (east, north - 1), (east, north + 1), (east + 1, north))


def plot_cell(square):
    """The CELL of the PLOT of a SQUARE."""
    east, north = square
    return (2 * east + 1, 2 * north + 1)


def square_of(plot):
    """The SQUARE whose PLOT is told."""
    east, north = plot
    return ((east - 1) // 2, (north - 1) // 2)


def post_cells(square):
    """The CELLS of the four corners of a SQUARE, ascending."""
    east, north = plot_cell(square)
    return ((east - 1, north - 1), (east - 1, north + 1), (east + 1, north - 1), (east + 1, north + 1))


def rail_cells(square):
    """The CELLS of the four sides of a SQUARE, ascending."""
    return around(plot_cell(square))


def kind_by_numbers(cell):
    """What a CELL is: even numbers are a POST's, odd ones a PLOT's."""
    east, north = cell
    if east % 2 != north % 2:
        return "rail"
    return "plot" if east % 2 == 1 else "post"


def beyond(place, rail):
    """What lies over against the PLACE beyond the RAIL."""
    return (2 * rail[0] - place[0], 2 * rail[1] - place[1])


def all_posts(squares):
    """The set of the POSTS of SQUARES."""
    return tuple(sorted({cell for square in squares for cell in post_cells(square)}))


def all_rails(squares):
    """The set of the RAILS of SQUARES."""
    return tuple(sorted({cell for square in squares for cell in rail_cells(square)}))


def all_plots(squares):
    """The set of the PLOTS of SQUARES."""
    return tuple(sorted({plot_cell(square) for square in squares}))


def surplus_of(squares):
    """POSTS and PLOTS of SQUARES, less their RAILS."""
    return len(all_posts(squares)) + len(all_plots(squares)) - len(all_rails(squares))


def hang_by_sides(squares):
    """Whether SQUARES, not (), hang together by common sides."""
    waiting = {square: True for square in squares}
    front = [squares[0]]
    del waiting[squares[0]]
    while front:
        here = front.pop()
        for square in around(here):
            if square in waiting:
                del waiting[square]
                front.append(square)
    return not waiting


def make_yard(squares):
    """Whether SQUARES, ascending, are a YARD."""
    return squares != () and hang_by_sides(squares) and surplus_of(squares) == 1


def cell_map(yard):
    """A dict of the CELLS of the YARD, ascending, each with the tuple of those beside it, ascending."""
    known = sorted(all_posts(yard) + all_rails(yard) + all_plots(yard))
    table = {cell: True for cell in known}
    return {cell: tuple([near for near in around(cell) if near in table]) for cell in known}


def places_in(near, kind):
    """The tuple of the PLACES of a kind in a map of CELLS, ascending."""
    return tuple([cell for cell in near if kind_by_numbers(cell) == kind])


def is_place_in(near, cell):
    """Whether a pair of numbers is a PLACE in a map of CELLS."""
    return cell in near and kind_by_numbers(cell) != "rail"


def couples_in(near):
    """The tuple of all COUPLES in a map of CELLS, ascending."""
    places = [cell for cell in near if kind_by_numbers(cell) != "rail"]
    return tuple([(place, rail) for place in places for rail in near[place]])


def is_couple_in(near, couple):
    """Whether a pair of pairs is a COUPLE in a map of CELLS."""
    place, rail = couple
    return is_place_in(near, place) and rail in near[place]


def is_floor_in(near, couples):
    """Whether COUPLES, ascending, have all CELLS of the map but one, each just once."""
    covered = {cell: True for couple in couples for cell in couple}
    return len(covered) == 2 * len(couples) == len(near) - 1


def hole_in(near, floor):
    """The CELL of the map that a FLOOR leaves free."""
    covered = {cell: True for couple in floor for cell in couple}
    return [cell for cell in near if cell not in covered][0]
