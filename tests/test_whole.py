"""The whole program: from a text or a sheet to verdicts, chases, counts, rooms, boards and desks: one least width."""

import unittest

from foxborders.binding import filled, gap, long_shires, longest, profile, room_paper, rooms, judge_room, slacks, thinned
from foxborders.bordertrees import judge_tree_verdict, land_of_turns, least_load, tree_verdict
from foxborders.changes import (bundled, contrary, has_ring, joined, parted, put_lands, shrunk)
from foxborders.chase import (best_chase, chase_end, is_won, judge_chase, lived, longest_rank, rank_of, refuges, wins_from)
from foxborders.counting import (least_with, plan_at, plan_number, plans_below, plans_by_neighbours, plans_in_pieces,
                                 standing_lots, sure_lots)
from foxborders.desk import Desk
from foxborders.house import House
from foxborders.kept import all_deeds, done, new_board, redone, short_way, told_now, undone, width_now, widths_of
from foxborders.land import (corner_count, is_land, mirrored_land, outer_border, outer_borders, renamed_land, renumbered_land,
                             times_land, with_length)
from foxborders.plans import formed, judge_plan, lots_of, put_plans, width
from foxborders.scripts import log_text, read_log
from foxborders.sheets import blown_sheet, land_of_sheet, mirrored_sheet, read_sheet, sheet_text, turned_sheet
from foxborders.surveys import board_land, by_width, judge_report, ladder_land, report, ring_land, wheel_land, words
from foxborders.tables import goes_at, greatest_table, is_table
from foxborders.texts import land_text, plan_text, read_land, read_plan, read_table, table_text
from foxborders.verdicts import (best_joins, best_plan, good_joins, is_below, join_widths, judge_told, judge_verdict,
                                 least_width, paper_for, plan_of_joins, told_for, verdict)
from tests.lands import BY_HAND, GROWN, WOVEN, Dice, grown_land, woven_land
from tests.sheets import SHEETS
from tests.values import exact

# Lands of each kind that may be passed to all parts.
LANDS = tuple(land for land in BY_HAND + GROWN + WOVEN if land[0] <= 9 and len(land[1]) <= 20)[::2] + (
    ring_land(2), ring_land(7), wheel_land(3), wheel_land(4), wheel_land(7), ladder_land(3), ladder_land(4), board_land(3, 3),
    board_land(1, 2), board_land(2, 4), grown_land(801, 9, 20, 1000), woven_land(802, 8, 7), woven_land(803, 9))
OF_SHEETS = tuple(sheet for sheet in SHEETS if len(land_of_sheet(sheet)[1]) <= 20 and land_of_sheet(sheet)[0] <= 9)


class OneWidth(unittest.TestCase):

    def check(self, land):
        """Holds all that tells a least width, or hangs on it, against one another."""
        least = least_width(land)
        self.plans_and_papers(land, least)
        self.joins(land, least)
        self.chases(land, least)
        self.counts(land, least)
        self.rooms(land, least)
        self.boards(land, least)
        self.surveys(land, least)
        return least

    def plans_and_papers(self, land, least):
        self.assertEqual([is_below(land, least), is_below(land, least + 1)], [False, True])
        self.assertEqual(least, max(max(outer_borders(land)), goes_at(land) - 1))
        told = verdict(land)
        self.assertEqual(told[0], least)
        self.assertIsNone(judge_verdict(land, told))
        self.assertEqual([width(land, best_plan(land)), width(land, told[1])], [least, least])
        self.assertEqual(exact(paper_for(land, least)), exact(told[2]))
        self.assertIsNone(paper_for(land, least + 1))
        for k in {1, max(outer_borders(land)), max(outer_borders(land)) + 1, least, least + 1, 10 ** 9}:
            told = told_for(land, k)
            self.assertIsNone(judge_told(land, k, told))
            self.assertEqual(told[0] == "plan", k > least)
        lots = [least_with(land, (s,)) for s in range(land[0])]
        self.assertEqual(set(lots), {least})

    def joins(self, land, least):
        self.assertEqual(width(land, plan_of_joins(land, best_joins(land))), least)
        if land[0] > 2:
            told = join_widths(land)
            worst = [max(told[e], outer_border(land, (a,)), outer_border(land, (b,))) for e, (a, b) in enumerate(land[1])]
            self.assertEqual(min(worst), least)
            self.assertEqual(good_joins(land), tuple(e for e, joined_width in enumerate(told) if joined_width <= least))

    def chases(self, land, least):
        for k in {max(least - 1, 1), least, least + 1}:
            table = greatest_table(land, k)
            won = is_won(land, k)
            self.assertEqual([table is None, won, all(wins_from(land, k, c) for c in range(corner_count(land)))], [won] * 3)
            # Where no shire is as long as k, there is a plan exactly if the bell wins.
            if max(outer_borders(land)) < k:
                self.assertEqual(won, k > least)
            self.assertEqual(refuges(land, k), table[0] if table is not None else ((),) * corner_count(land))
            for position in ((0, 0), (corner_count(land) - 1, land[0] - 1)):
                rank = rank_of(land, k, position)
                if rank is None:
                    self.assertIn(position[1], table[0][position[0]])
                    self.assertIsNotNone(chase_end(land, lived(land, k, position, (0, 3, 1, 2, 7))))
                else:
                    chase = best_chase(land, k, position)
                    self.assertEqual([len(chase[1]), judge_chase(land, k, chase), chase_end(land, chase)], [rank, None, None])
                    self.assertLessEqual(rank, longest_rank(land, k))

    def counts(self, land, least):
        self.assertEqual([plans_below(land, least), plans_by_neighbours(land, least), standing_lots(land, least)], [0, 0, ()])
        many = plans_below(land, least + 1)
        self.assertGreater(many, 0)
        self.assertGreater(plans_by_neighbours(land, least + 1), 0)
        for i in {0, many // 2, many - 1}:
            plan = plan_at(land, least + 1, i)
            self.assertEqual([width(land, plan), plan_number(land, least + 1, plan)], [least, i])
            self.assertTrue(set(sure_lots(land, least + 1)) <= set(lots_of(plan)) <= set(standing_lots(land, least + 1)))
        self.assertIsNotNone(plan_number(land, least + 1, best_plan(land)))
        self.assertLessEqual(plans_in_pieces(land, least + 1), many)

    def rooms(self, land, least):
        self.assertEqual(gap(land), least - max(outer_borders(land)))
        self.assertEqual(gap(land) == 0, long_shires(land) != ())
        order = list(range(len(land[1])))
        lengths, late = thinned(land, order)
        self.assertEqual([least_width(filled(land, order)), least_width(late)], [least, least])
        self.assertTrue(all(low <= length for low, length in zip(lengths, land[3])))
        told = rooms(land)
        for e in order[::4]:
            if land[3][e] < 30:
                self.assertEqual(profile(land, e, land[3][e])[-1], least)
            self.assertEqual(longest(land, e, least + 1), land[3][e] + told[e])
            paper = room_paper(land, e)
            self.assertEqual([paper[:2], judge_room(land, e, paper)], [(least, told[e]), None])
            slack = slacks(land)[e]
            less = shrunk(land, e) if slack == land[3][e] else with_length(land, e, land[3][e] - slack)
            self.assertEqual(least_width(less), least)

    def boards(self, land, least):
        board = new_board(land)
        self.assertEqual([width_now(board), widths_of(board), told_now(board, least + 1)[0]], [least, (least,), "plan"])
        for deed in short_way(board):
            board = done(board, deed)
        widths = widths_of(board)
        self.assertEqual([widths[0], sorted(widths, reverse=True), board["land"][0]], [least, list(widths), 2])
        house, desk = House(land), Desk(land)
        self.assertEqual([house.width(), house.settle(), house.deeds()], [least, len(board["log"]), board["log"]])
        self.assertEqual([desk.say("width"), desk.say("settle"), desk.say("log")], [str(least), str(len(board["log"])),
                                                                                   log_text(board["log"]) or "nothing"])
        self.assertEqual(read_log(log_text(board["log"])), board["log"])

    def surveys(self, land, least):
        told = report(land)
        self.assertEqual([told[4], judge_report(land, told)], [least, None])
        self.assertEqual(told[5], verdict(land)[2][0])
        if least < 1000:
            self.assertEqual(len([word for word in words(land, least + 3) if word != "plan"]), least)

    def test_lands(self):
        for land in LANDS:
            self.check(land)

    def test_from_texts(self):
        for land in LANDS[::3]:
            read = read_land(land_text(land))
            self.assertEqual(exact(read), exact(land))
            desk = Desk(read)
            self.assertEqual(desk.say("land"), land_text(land))
            plan = read_plan(desk.say("plan"))
            self.assertIsNone(judge_plan(land, least_width(land) + 1, plan))
            paper = desk.say("paper")
            if not paper.startswith("shire"):
                self.assertIs(is_table(land, least_width(land), read_table(paper)), True)
                self.assertEqual(paper, desk.say(f"table {least_width(land)}"))
            self.assertEqual(plan_text(plan), desk.say("plan"))

    def test_from_sheets(self):
        for sheet in OF_SHEETS:
            land = land_of_sheet(read_sheet(sheet_text(sheet)))
            self.assertIs(is_land(land), True)
            least = least_width(land)
            self.assertEqual(least_width(land_of_sheet(blown_sheet(sheet, 3))), 3 * least)
            for other in (mirrored_sheet(sheet), turned_sheet(sheet)):
                self.assertEqual(least_width(land_of_sheet(other)), least)
        for sheet in OF_SHEETS[::5]:
            self.check(land_of_sheet(sheet))

    def test_behind_deeds(self):
        for seed, land in enumerate(LANDS[::6]):
            dice = Dice(seed)
            board = new_board(land)
            for _ in range(3):
                deeds = all_deeds(board, 1 + dice.below(9))
                if deeds:
                    board = done(board, dice.pick(deeds))
            self.assertEqual(self.check(board["land"]), width_now(board))
            if board["log"]:
                self.assertEqual(exact(redone(undone(board))), exact(board))


class Alike(unittest.TestCase):
    """What the document promises of lands made from lands, told by the least width alone."""

    def test_like_lands(self):
        for seed, land in enumerate(LANDS):
            dice = Dice(seed)
            least = least_width(land)
            names, order = tuple(dice.shuffled(range(land[0]))), tuple(dice.shuffled(range(len(land[1]))))
            for other in (mirrored_land(land), renamed_land(land, names), renumbered_land(land, order), bundled(land)):
                self.assertEqual(least_width(other), least)
                self.assertEqual(plans_below(other, least + 1), plans_below(land, least + 1))
            more = times_land(land, 7)
            self.assertEqual([least_width(more), goes_at(more) - 1], [7 * least, 7 * (goes_at(land) - 1)])

    def test_smaller_and_greater_lands(self):
        for land in LANDS[::2]:
            least = least_width(land)
            for s in range(land[0]):
                widths = [least_width(part) for _, part in parted(land, s)]
                self.assertEqual(least, max(widths + [outer_border(land, (s,))]))
            for e in range(len(land[1])):
                less = shrunk(land, e)
                if less is not None:
                    self.assertTrue(least - land[3][e] <= least_width(less) <= least)
                self.assertIn(least_width(with_length(land, e, land[3][e] + 1)) - least, (0, 1))
            if not has_ring(land):
                self.assertEqual(least, max(outer_borders(land)))

    def test_put_together(self):
        dice = Dice(7)
        for _ in range(40):
            one, other = dice.pick(LANDS), dice.pick(LANDS)
            s, t = dice.below(one[0]), dice.below(other[0])
            land = put_lands(one, s, other, t)
            both = outer_border(one, (s,)) + outer_border(other, (t,))
            self.assertEqual(least_width(land), max(least_width(one), least_width(other), both))
            self.assertEqual(width(land, put_plans(best_plan(one), s, best_plan(other), t)), least_width(land))

    def test_trees_of_borders(self):
        for land in LANDS:
            if len(land[1]) > 1:
                turned = land_of_turns(land)
                self.assertEqual(2 * least_load(land), least_width(turned))
                self.assertIsNone(judge_tree_verdict(land, tree_verdict(land)))
                other = contrary(land)
                if other is not None:
                    self.assertEqual(least_load(other), least_load(land))

    def test_joins_along_the_way(self):
        for land in LANDS[::2]:
            left, least = land, least_width(land)
            for e in best_joins(land):
                left = joined(left, e)
                self.assertLessEqual(least_width(left), least)
                least = least_width(left)

    def test_by_width(self):
        told = by_width(list(LANDS[:12]))
        widths = [least_width(LANDS[i]) for i in told]
        self.assertEqual([sorted(told), sorted(widths)], [list(range(12)), widths])

    def test_texts_of_what_is_told(self):
        for land in LANDS:
            plan = best_plan(land)
            self.assertEqual(exact(read_plan(plan_text(plan))), exact(formed(plan)))
            table = greatest_table(land, 1)
            if table is not None:
                self.assertEqual(exact(read_table(table_text(table))), exact(table))
