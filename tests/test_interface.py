"""The interface: each name stands in its file, with its arguments in order."""

import importlib
import inspect
import unittest

INTERFACE = {
    "signs": "words(text) text_of(words) number_of(word) word_of(number)",
    "yards": (
        "is_yard(thing) is_square(yard,thing) hangs_together(squares) surplus(squares) squares_beside(yard,square) "
        "posts(yard) rails(yard) plots(yard) sizes(yard) rim(yard) inner_posts(yard) boxed(many,high) "
        "square_more(yard,square) square_less(yard,square)"
    ),
    "cells": (
        "is_cell(yard,thing) is_place(yard,thing) is_couple(yard,thing) kind_of(yard,cell) cells(yard) "
        "places(yard,kind) plot_of(yard,square) cells_beside(yard,cell) rails_at(yard,place) ends(yard,rail) "
        "sides(yard,rail) couples(yard) points_to(yard,couple) couples_to(yard,place) couples_out(yard)"
    ),
    "floors": (
        "is_floor(yard,thing) hole_of(yard,floor) couple_at(yard,floor,cell) couples_of(yard,floor,kind) "
        "first_gap(yard,couples) first_overlap(yard,couples) all_floors(yard,hole) some_floor(yard,hole)"
    ),
    "mirrored": (
        "moved(yard,number) cell_moved(yard,cell,number) floor_moved(yard,floor,number) move_back(number) "
        "moves_put(number,many) moves_of(yard) seen_alike(yard,other) least_seen(yard) "
        "floors_alike(yard,floor,other)"
    ),
    "tables": (
        "line_of(yard,hole,kind) table_of(yard,hole,kind) plain_table(yard,hole,kind) "
        "table_by(yard,hole,kind,rails) switched(yard,place,rails) determinant(table)"
    ),
    "counts": (
        "how_many(yard,hole) by_posts(yard,hole) by_plots(yard,hole) free_many(yard) shut_many(yard,hole) "
        "many_each(yard) many_in_all(yard) fullest(yard)"
    ),
}


class InterfaceTest(unittest.TestCase):
    def test_names_and_arguments(self):
        for name, told in INTERFACE.items():
            module = importlib.import_module("holefloors." + name)
            for part in told.split():
                function_name, arguments = part[:-1].split("(")
                function = getattr(module, function_name)
                self.assertTrue(inspect.isfunction(function), part)
                self.assertEqual(function.__module__, module.__name__, part)
                parameters = inspect.signature(function).parameters.values()
                self.assertEqual([own.name for own in parameters], arguments.split(","), part)
                for own in parameters:
                    self.assertEqual(own.kind, own.POSITIONAL_OR_KEYWORD, part)
                    self.assertIs(own.default, own.empty, part)


if __name__ == "__main__":
    unittest.main()
