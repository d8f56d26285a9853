"""The interface: each name stands in its file, with the arguments as written."""

import importlib
import inspect
import unittest

from foxborders.desk import Desk
from foxborders.house import House

FUNCTIONS = {
    "foxborders.land": (
        "begin_of(land, side); end_of(land, side); back_of(side); borders_at(land, shire); neighbours(land, shire); "
        "next_side(land, side); corner_of(land, side); corners(land); corner_number(land, side); ends(land, e); "
        "shires_at(land, c); judge_land(value); is_land(value); cut_borders(land, lot); outer_border(land, lot); "
        "outer_borders(land); longest_shires(land); between(land, s, t); whole_length(land); same_land(one, other); "
        "mirrored_land(land); renamed_land(land, names); renumbered_land(land, order); with_length(land, e, m); "
        "times_land(land, m)"),
    "foxborders.texts": (
        "land_text(land); read_land(text); plan_text(plan); read_plan(text); lot_text(numbers); read_lot(text); "
        "table_text(table); read_table(text)"),
    "foxborders.sheets": (
        "judge_sheet(value); is_sheet(value); land_of_sheet(sheet); letters_of(sheet); shire_of_cell(sheet, r, c); "
        "border_sides(sheet); corner_points(sheet); mirrored_sheet(sheet); turned_sheet(sheet); blown_sheet(sheet, "
        "k); with_letter(sheet, one, other); sheet_text(sheet); read_sheet(text)"),
    "foxborders.rounds": (
        "step_from(land, step); step_to(land, step); length_of(land, steps); far(land, c, d); all_far(land); "
        "walk_of(land, c, d); judge_walk(land, c, d, value); round_of(land, e, f); round_shown(land, e, f); "
        "judge_round(land, e, f, value); is_noisy(land, e, f, k); noisy(land, e, k); all_noisy(land, k); "
        "pieces(land, e, k); all_pieces(land, k); piece_of(land, e, k, s); way_of(land, e, k, s, t); "
        "judge_way(land, e, k, s, t, value)"),
    "foxborders.plans": (
        "is_lot(n, value); rest_of(n, lot); is_plan(n, value); shires_of(plan); formed(plan); lots_of(plan); "
        "judge_lots(n, value); plan_of(n, lots); width(land, plan); widest(land, plan); judge_plan(land, k, value); "
        "rooted(plan, s); led(plan, names); put_plans(one, s, other, t); ladder(order); is_ladder(plan); "
        "near_plans(plan); plans_between(one, other); judge_between(one, other, value)"),
    "foxborders.tables": (
        "first_sketch(land); is_within(one, other); together(one, other); sketch_pieces(land, k, e, shires); "
        "judge_table(land, k, value); is_table(land, k, value); falls(land, k, sketch); fallen(sketch, fall); "
        "greatest_within(land, k, sketch); greatest_table(land, k); laps(land, k); lap_of(land, k, c, s); "
        "goes_at(land); thin_table(land, k, table)"),
    "foxborders.chase": (
        "bell_moves(land, c); fox_moves(land, k, position, e); behind(land, position, e, t); ranks(land, k); "
        "rank_of(land, k, position); bell_move(land, k, position); fox_move(land, k, position, e); "
        "judge_chase(land, k, value); chase_end(land, chase); best_chase(land, k, position); hunted(land, k, "
        "position, picks); lived(land, k, position, picks); is_won(land, k); longest_rank(land, k); refuges(land, "
        "k); wins_from(land, k, c)"),
    "foxborders.verdicts": (
        "is_below(land, k); least_width(land); told_for(land, k); judge_told(land, k, value); paper_for(land, k); "
        "judge_paper(land, k, value); good_joins(land); join_widths(land); best_joins(land); plan_of_joins(land, "
        "row); judge_joins(land, k, value); best_plan(land); verdict(land); judge_verdict(land, value)"),
    "foxborders.changes": (
        "joined(land, e); joined_shires(land, e); joined_borders(land, e); shrunk(land, e); contrary(land); "
        "pieces_without(land, s); parting_shires(land); part_of(land, lot); parted(land, s); put_lands(one, s, "
        "other, t); has_ring(land); bundled(land)"),
    "foxborders.bordertrees": (
        "meeting_shires(land, lot); meeting_corners(land, lot); shire_load(land, lot); corner_load(land, lot); "
        "tree_load(land, tree); corner_tree_load(land, tree); judge_tree(land, k, value); judge_corner_tree(land, k, "
        "value); angles(land); land_of_turns(land); outer_in_turns(land, lot); least_load(land); best_tree(land); "
        "one_corner_borders(land); tree_verdict(land); judge_tree_verdict(land, value)"),
    "foxborders.counting": (
        "plans_below(land, k); plan_number(land, k, plan); plan_at(land, k, i); plans_with(land, k, lot); "
        "standing_lots(land, k); sure_lots(land, k); least_with(land, lot); plan_with(land, lot); "
        "plans_by_neighbours(land, k); plans_in_pieces(land, k)"),
    "foxborders.binding": (
        "profile(land, e, many); longest(land, e, k); room_of(land, e); rooms(land); binding(land); is_full(land); "
        "slack_of(land, e); slacks(land); holding(land); is_bare(land); filled(land, order); thinned(land, order); "
        "long_shires(land); gap(land); tight_lots(land, plan); plan_rooms(land, plan); room_paper(land, e); "
        "judge_room(land, e, value)"),
    "foxborders.kept": (
        "new_board(land); is_deed(board, value); done(board, deed); boards(board); undone(board); redone(board); "
        "width_now(board); told_now(board, k); widths_of(board); all_deeds(board, m); short_way(board)"),
    "foxborders.surveys": (
        "ring_land(n); wheel_land(n); ladder_land(n); board_land(m, n); widths_told(kind, most); words(land, most); "
        "report(land); judge_report(land, value); by_width(lands)"),
    "foxborders.scripts": "deed_text(deed); read_deed(text); log_text(deeds); read_log(text)",
}
CLASSES = {"foxborders.errors": "BadText(place); BadDeed(); NothingDone()", "foxborders.house": "House(land)",
           "foxborders.desk": "Desk(land)"}
METHODS = {
    House: ("board(); do(deed); undo(); redo(); deeds(); twin(); settle(); land(); width(); plan(); paper(); joins(); "
            "table(k); bell(k, c, s); fox(k, c, s, e)"),
    Desk: "house(); say(line)",
}


class Interface(unittest.TestCase):

    def check(self, listed, kind):
        for file, rows in listed.items():
            module = importlib.import_module(file)
            for row in rows.split("; "):
                name, arguments = row.rstrip(")").split("(")
                told = getattr(module, name)
                self.assertTrue(kind(told), row)
                self.assertEqual(told.__module__, file, row)
                self.assertEqual(", ".join(inspect.signature(told).parameters), arguments, row)

    def test_functions(self):
        self.check(FUNCTIONS, inspect.isfunction)

    def test_classes(self):
        self.check(CLASSES, inspect.isclass)

    def test_methods(self):
        for kind, rows in METHODS.items():
            for row in rows.split("; "):
                name, arguments = row.rstrip(")").split("(")
                # In the class itself, not in one above it.
                told = vars(kind)[name]
                self.assertTrue(inspect.isfunction(told), row)
                self.assertEqual(", ".join(inspect.signature(told).parameters), ", ".join(["self", arguments]).rstrip(", "), row)
