"""The interface: each name stands in its file, with its arguments in order."""

import importlib
import inspect
import unittest

INTERFACE = {
    "signs": "words(text) text_of(words) number_of(word) word_of(number)",
    "yards": (
        "is_yard(thing) is_square(yard,thing) hangs_together(squares) surplus(squares) squares_beside(yard,square) "
        "posts(yard) rails(yard) plots(yard) sizes(yard) rim(yard) inner_posts(yard) boxed(many,high) "
        "square_more(yard,square) square_less(yard,square)"
    ),
    "cells": (
        "is_cell(yard,thing) is_place(yard,thing) is_couple(yard,thing) kind_of(yard,cell) cells(yard) "
        "places(yard,kind) plot_of(yard,square) cells_beside(yard,cell) rails_at(yard,place) ends(yard,rail) "
        "sides(yard,rail) couples(yard) points_to(yard,couple) couples_to(yard,place) couples_out(yard)"
    ),
    "floors": (
        "is_floor(yard,thing) hole_of(yard,floor) couple_at(yard,floor,cell) couples_of(yard,floor,kind) "
        "first_gap(yard,couples) first_overlap(yard,couples) all_floors(yard,hole) some_floor(yard,hole)"
    ),
    "mirrored": (
        "moved(yard,number) cell_moved(yard,cell,number) floor_moved(yard,floor,number) move_back(number) "
        "moves_put(number,many) moves_of(yard) seen_alike(yard,other) least_seen(yard) "
        "floors_alike(yard,floor,other)"
    ),
    "arrows": (
        "arrows(yard,floor) arrow_of(yard,floor,place) ends_in(yard,floor,place) tree(yard,floor) "
        "way_home(yard,floor,place) tree_rails(yard,floor) never_moved(yard,floor)"
    ),
    "slides": (
        "slides(yard,floor) slid(yard,floor,place) behind(yard,floor,plan) holes_along(yard,floor,plan) "
        "is_plan(yard,floor,thing) contrary(yard,floor,plan) moved_by(yard,floor,plan) shortened(yard,floor,plan)"
    ),
    "fewest": (
        "fewest(yard,floor,place) plan_to(yard,floor,place) is_plan_to(yard,floor,place,thing) ways(yard,floor) "
        "farthest(yard,floor) between(yard,floor,place,other) widest(yard,floor)"
    ),
    "lots": (
        "standings(yard,floor) standing_at(yard,floor,place) is_standing(yard,floor,thing) "
        "how_many_standings(yard,floor) least_standing(yard,floor) are_of_one(yard,floor,other) families(yard,kind) "
        "free_families(yard)"
    ),
    "rings": (
        "rings(yard,floor,kind) is_ring(yard,floor,thing) rings_outward(yard,floor) innermost(yard,floor) "
        "outermost(yard,floor) lies_within(yard,floor,ring,place) places_within(yard,floor,ring) "
        "ring_about(yard,floor,place) turned_ring(yard,floor,ring) all_turned(yard,floor)"
    ),
    "shut": (
        "is_free(yard,floor) is_shut(yard,floor) depth(yard,floor) rim_posts(yard) ring_round(yard,floor) "
        "is_ring_round(yard,floor,thing) why_free(yard,floor) is_why_free(yard,floor,thing) "
        "never_reached(yard,floor) nearest_rim(yard,floor) opened(yard,floor)"
    ),
    "tables": (
        "line_of(yard,hole,kind) table_of(yard,hole,kind) plain_table(yard,hole,kind) "
        "table_by(yard,hole,kind,rails) switched(yard,place,rails) determinant(table)"
    ),
    "counts": (
        "how_many(yard,hole) by_posts(yard,hole) by_plots(yard,hole) free_many(yard) shut_many(yard,hole) "
        "many_each(yard) many_in_all(yard) fullest(yard)"
    ),
    "alike": (
        "can_lead(yard,floor,other) lead_to(yard,floor,other) slides_apart(yard,floor,other) "
        "is_lead(yard,floor,other,thing) why_apart(yard,floor,other) is_why_apart(yard,floor,other,thing) "
        "led_by_all(yard,floor,others)"
    ),
    "held": (
        "is_still(yard,thing) left(yard,still) rails_left(yard,still) kind_left(yard,still) "
        "floor_by(yard,still,place) floors_by(yard,still) all_stills(yard,kind) lots_of_size(yard,kind,number) "
        "free_lots(yard) why_no_still(yard,couples) is_why_no_still(yard,couples,thing)"
    ),
    "rounds": (
        "ring_counts(yard,hole) ring_ways(yard,hole) most_rings(yard,hole) many_with_rings(yard,hole,number) "
        "mean_rings(yard,hole)"
    ),
    "shares": (
        "free_share(yard,hole) rail_many(yard,rail) rail_share(yard,rail) couple_many(yard,hole,couple) "
        "couple_share(yard,hole,couple) round_share(yard,place)"
    ),
    "told": (
        "clash(yard,hole,told) many_with(yard,hole,told) share_with(yard,hole,told,couple) can_finish(yard,hole,told) "
        "finished(yard,hole,told) is_finished(yard,hole,told,thing) why_not(yard,hole,told) "
        "is_why_not(yard,hole,told,thing) couples_in_all(yard,hole,told) couples_in_some(yard,hole,told)"
    ),
    "texts": (
        "is_sheet(thing) sheet_text(sheet) read_sheet(text) yard_text(yard) read_yard(text) picture(yard,floor) "
        "read_picture(text)"
    ),
    "numbered": (
        "row_of_rails(yard,floor) many_begin(yard,hole,rails) floor_at(yard,hole,number) floor_number(yard,floor) "
        "first_floor(yard,hole) last_floor(yard,hole) next_floor(yard,floor) floor_ahead(yard,floor) "
        "floors_from(yard,floor,many)"
    ),
    "joined": (
        "common_rail(yard,other) joined(yard,other) parted(yard,rail) bare(yard,rail) end_shares(yard,hole,rail) "
        "many_joined(yard,other,hole) free_joined(yard,other) halves(yard,other,floor) "
        "put_halves(yard,other,floor,other_floor)"
    ),
    "judge": (
        "is_demand(thing) is_so(demand) paper_against(demand) is_paper_against(demand,thing) reason_for(demand) "
        "is_reason_for(demand,thing) first_fallen(demands)"
    ),
}
DESK = {
    "__init__": "yard,floor", "say": "text", "yard": "", "floor": "", "first": "", "slides_done": "", "undo": "", "redo": "",
    "twin": "", "__eq__": None,
}


class InterfaceTest(unittest.TestCase):
    def test_names_and_arguments(self):
        for name, told in INTERFACE.items():
            module = importlib.import_module("holefloors." + name)
            for part in told.split():
                function_name, arguments = part[:-1].split("(")
                function = getattr(module, function_name)
                self.assertTrue(inspect.isfunction(function), part)
                self.assertEqual(function.__module__, module.__name__, part)
                parameters = inspect.signature(function).parameters.values()
                self.assertEqual([own.name for own in parameters], arguments.split(","), part)
                for own in parameters:
                    self.assertEqual(own.kind, own.POSITIONAL_OR_KEYWORD, part)
                    self.assertIs(own.default, own.empty, part)

    def test_desk(self):
        module = importlib.import_module("holefloors.desk")
        self.assertTrue(inspect.isclass(module.Desk))
        self.assertEqual((module.Desk.__module__, module.Desk.__bases__), ("holefloors.desk", (object,)))
        for name, arguments in DESK.items():
            # Each method stands in the body of the class itself.
            method = vars(module.Desk)[name]
            self.assertTrue(inspect.isfunction(method), name)
            if arguments is not None:
                parameters = list(inspect.signature(method).parameters)[1:]
                self.assertEqual(parameters, arguments.split(",") if arguments else [], name)

    def test_errors(self):
        module = importlib.import_module("holefloors.errors")
        for told in "NoCell(cell) NoPlace(place) NothingDone() BadText(line) Broken(number) CanNot() TooMany() Unfit()".split():
            name, arguments = told[:-1].split("(")
            error = getattr(module, name)
            self.assertTrue(inspect.isclass(error) and error.__module__ == "holefloors.errors", told)
            if arguments:
                self.assertEqual(list(inspect.signature(error).parameters), [arguments], told)
            else:
                self.assertEqual(vars(error()), {}, told)


if __name__ == "__main__":
    unittest.main()
