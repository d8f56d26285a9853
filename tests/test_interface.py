"""The interface: each name stands in its file, with the arguments as written."""

import importlib
import inspect
import unittest

FUNCTIONS = {
    "foxborders.land": (
        "begin_of(land, side); end_of(land, side); back_of(side); borders_at(land, shire); neighbours(land, shire); "
        "next_side(land, side); corner_of(land, side); corners(land); corner_number(land, side); ends(land, e); "
        "shires_at(land, c); judge_land(value); is_land(value); cut_borders(land, lot); outer_border(land, lot); "
        "outer_borders(land); longest_shires(land); between(land, s, t); whole_length(land); same_land(one, other); "
        "mirrored_land(land); renamed_land(land, names); renumbered_land(land, order); with_length(land, e, m); "
        "times_land(land, m)"),
    "foxborders.texts": (
        "land_text(land); read_land(text); plan_text(plan); read_plan(text); lot_text(numbers); read_lot(text); "
        "table_text(table); read_table(text)"),
}
CLASSES = {"foxborders.errors": "BadText(place); BadDeed(); NothingDone()"}


class Interface(unittest.TestCase):

    def check(self, listed, kind):
        for file, rows in listed.items():
            module = importlib.import_module(file)
            for row in rows.split("; "):
                name, arguments = row.rstrip(")").split("(")
                told = getattr(module, name)
                self.assertTrue(kind(told), row)
                self.assertEqual(told.__module__, file, row)
                self.assertEqual(", ".join(inspect.signature(told).parameters), arguments, row)

    def test_functions(self):
        self.check(FUNCTIONS, inspect.isfunction)

    def test_classes(self):
        self.check(CLASSES, inspect.isclass)
