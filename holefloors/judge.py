"""One judge over DEMANDS: whether they stand, PAPERS against them, REASONS for them."""

from holefloors.alike import can_lead, is_lead, is_why_apart, lead_to, why_apart
from holefloors.arrows import tree
from holefloors.counts import how_many
from holefloors.errors import Unfit
from holefloors.fewest import fewest, is_plan_to, plan_to
from holefloors.fits import floor_or_none, map_laid_hole, place_or_none, yard_or_none
from holefloors.ground import cell_map
from holefloors.shapes import is_number, is_same
from holefloors.shut import is_free, is_ring_round, is_why_free, ring_round, why_free
from holefloors.tables import table_of
from holefloors.trails import trail

# What stands in a DEMAND behind its word and its YARD.
PARTS = {
    "free": ("floor",),
    "come": ("floor", "place"),
    "fewest": ("floor", "place", "number"),
    "apart": ("floor", "floor"),
    "many": ("place", "number"),
}


def _part_or_none(near, form, value):
    """The part of a DEMAND that value is; None if it is none."""
    if form == "floor":
        return floor_or_none(near, value)
    if form == "place":
        return place_or_none(near, value)
    return value if is_number(value) and value >= 0 else None


def _demand_or_none(value):
    """The DEMAND that value is, if need be with lists for tuples; None if it is none."""
    if not isinstance(value, (list, tuple)) or not value or not isinstance(value[0], str):
        return None
    forms = PARTS.get(value[0])
    if forms is None or len(value) != 2 + len(forms):
        return None
    yard = yard_or_none(value[1])
    if yard is None:
        return None
    near = cell_map(yard)
    parts = [_part_or_none(near, form, part) for form, part in zip(forms, value[2:])]
    if None in parts:
        return None
    if value[0] == "fewest" and parts[1] not in tree(yard, parts[0]):
        return None
    return (value[0], yard) + tuple(parts)


def _fit_demand(value):
    """The DEMAND that value is: its word, and what stands behind it."""
    demand = _demand_or_none(value)
    if demand is None:
        raise Unfit()
    return (demand[0], demand[1:])


def _stands(word, told):
    """Whether a DEMAND stands."""
    if word == "free":
        return is_free(*told)
    if word == "come":
        yard, floor, place = told
        return place in tree(yard, floor)
    if word == "fewest":
        yard, floor, place, number = told
        return fewest(yard, floor, place) <= number
    if word == "apart":
        return not can_lead(*told)
    yard, hole, number = told
    return how_many(yard, hole) <= number


def _paper(word, told):
    """A PAPER against a DEMAND that does not stand."""
    if word == "free":
        return ring_round(*told)
    if word == "come":
        yard, floor, place = told
        near, laid, _ = map_laid_hole(yard, floor)
        return trail(near, laid, place)
    if word == "fewest":
        yard, floor, place, _ = told
        return plan_to(yard, floor, place)
    if word == "apart":
        return lead_to(*told)
    yard, hole, _ = told
    return how_many(yard, hole)


def _reason(word, told):
    """A REASON for a DEMAND that stands."""
    if word == "free":
        return why_free(*told)
    if word == "apart":
        return why_apart(*told)
    if word == "many":
        yard, hole, _ = told
        return table_of(yard, hole, "post")
    yard, floor, place = told[:3]
    return plan_to(yard, floor, place)


def _is_paper(word, told, thing):
    """Whether thing is a PAPER against a DEMAND that does not stand."""
    if word == "free":
        return is_ring_round(*told, thing)
    if word == "apart":
        return is_lead(*told, thing)
    # There is just one PAPER then.
    return is_same(thing, _paper(word, told))


def _is_reason(word, told, thing):
    """Whether thing is a REASON for a DEMAND that stands."""
    if word == "free":
        return is_why_free(*told, thing)
    if word == "apart":
        return is_why_apart(*told, thing)
    if word == "many":
        # There is just one REASON then.
        return is_same(thing, _reason(word, told))
    yard, floor, place = told[:3]
    return is_plan_to(yard, floor, place, thing) and (word == "come" or len(thing) <= told[3])


def is_demand(thing):
    """Whether thing is a DEMAND."""
    demand = _demand_or_none(thing)
    # A list is never equal to the tuple that was made of it.
    return demand is not None and demand == thing


def is_so(demand):
    """Whether the DEMAND stands."""
    word, told = _fit_demand(demand)
    return _stands(word, told)


def paper_against(demand):
    """A PAPER against the DEMAND; None if it stands."""
    word, told = _fit_demand(demand)
    return None if _stands(word, told) else _paper(word, told)


def is_paper_against(demand, thing):
    """Whether thing is a PAPER against the DEMAND."""
    word, told = _fit_demand(demand)
    return not _stands(word, told) and _is_paper(word, told, thing)


def reason_for(demand):
    """A REASON for the DEMAND; None if it does not stand."""
    word, told = _fit_demand(demand)
    return _reason(word, told) if _stands(word, told) else None


def is_reason_for(demand, thing):
    """Whether thing is a REASON for the DEMAND."""
    word, told = _fit_demand(demand)
    return _stands(word, told) and _is_reason(word, told, thing)


def first_fallen(demands):
    """The number of the first of DEMANDS that does not stand; None if all stand."""
    if not isinstance(demands, (list, tuple)):
        raise Unfit()
    for number, (word, told) in enumerate([_fit_demand(demand) for demand in demands]):
        if not _stands(word, told):
            return number
    return None
