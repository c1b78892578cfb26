"""A FLOOR whose row of RAILS is changed PLACE by PLACE."""

from holefloors.ground import places_in
from holefloors.trails import floor_of, laid_of


def places_of_row(near, hole):
    """The list of the PLACES, but the HOLE, in the order in which their RAILS stand in a row."""
    return [place for place in places_in(near, "post") + places_in(near, "plot") if place != hole]


class Laying:
    """A FLOOR, its row, and what comes to be of it with other RAILS.

    backward: the greater RAIL is taken for the lesser one, so that all goes the other way.
    """

    def __init__(self, near, hole, floor, backward):
        self._places = places_of_row(near, hole)
        self._rails = {place: near[place][::-1] if backward else near[place] for place in self._places}
        self._at = {place: at for at, place in enumerate(self._places)}
        self._laid = laid_of(floor)
        self._holders = {rail: place for place, rail in floor}

    def floor(self):
        """The FLOOR as it is now."""
        return floor_of(self._laid)

    def _ways_to(self, place, rail):
        """From which PLACE each RAIL is come to if PLACES behind this one, which takes the RAIL, give theirs up."""
        goal = self._laid[place]
        came = {rail: place}
        front = [rail]
        while front and goal not in came:
            holder = self._holders[front.pop()]
            if self._at[holder] > self._at[place]:
                for other in self._rails[holder]:
                    if other not in came:
                        came[other] = holder
                        front.append(other)
        return came

    def _take(self, place, rail):
        """Whether the PLACE can have this RAIL, those ahead of it as before: if so, it has it then."""
        given_up = self._laid[place]
        came = self._ways_to(place, rail)
        if given_up not in came:
            return False
        taker = None
        while taker != place:
            taker = came[given_up]
            self._holders[given_up] = taker
            had = self._laid[taker]
            self._laid[taker] = given_up
            given_up = had
        return True

    def settle(self, start):
        """Gives each PLACE, from the start-th on, the least RAIL that it can have, those ahead of it as before."""
        for place in self._places[start:]:
            for rail in self._rails[place]:
                if rail == self._laid[place] or self._take(place, rail):
                    break

    def step(self):
        """Whether there is a FLOOR right behind this one: if so, it is the one there is then."""
        for at in range(len(self._places) - 1, -1, -1):
            place = self._places[at]
            rails = self._rails[place]
            for rail in rails[rails.index(self._laid[place]) + 1:]:
                if self._take(place, rail):
                    self.settle(at + 1)
                    return True
        return False
