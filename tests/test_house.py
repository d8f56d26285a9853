"""[14.2] and [14.3]: houses, their boards, deeds and twins, and what they show."""

import copy
import unittest

from foxborders.chase import bell_move, bell_moves, fox_move
from foxborders.errors import BadDeed, NothingDone
from foxborders.house import House
from foxborders.kept import done, new_board, redone, short_way, undone, width_now
from foxborders.land import corner_count
from foxborders.plans import judge_plan
from foxborders.tables import greatest_table
from foxborders.verdicts import good_joins, told_for, verdict
from tests.boards_oracle import NO_DEEDS, some_deed
from tests.lands import BY_HAND, FOUR, GROWN, HUNG, ONE, RING, ROW, STAR, TRIPLE, WOVEN, Dice, board, grown_land, prism, woven_land
from tests.plans_oracle import in_form
from tests.values import exact, odd_values, unchanged

SOME = tuple(land for land in BY_HAND + GROWN[:30] + WOVEN[:30] if land[0] <= 9 and len(land[1]) <= 20)
# As large as callers may pass them.
NINE = (grown_land(101, 9, 20, 999999999), woven_land(102, 9, 5), board(3, 3, (2, 1, 3)), grown_land(103, 9, 8), grown_land(104, 2, 20, 9),
        prism(4))


class Kept(unittest.TestCase):

    def same(self, house, kept):
        self.assertEqual(exact(sorted(house.board().items())), exact(sorted(kept.items())))
        self.assertEqual(exact([house.deeds(), house.land()]), exact([kept["log"], kept["land"]]))

    def step(self, dice, house, kept):
        """One call, of a kind that is thrown; the board that is expected then."""
        what = dice.below(6)
        if what < 3:
            deed = some_deed(dice, kept["land"])
            kept = done(kept, deed)
            self.assertEqual(exact(house.do(deed)), exact(len(kept["log"])))
        elif what == 3:
            with self.assertRaises(BadDeed):
                house.do(dice.pick((("join", 99), ("length", 0, kept["land"][3][0]), None, ["join", 0], "undo")))
        else:
            word, change = (("undo", undone), ("redo", redone))[what - 4]
            try:
                kept = change(kept)
            except NothingDone:
                with self.assertRaises(NothingDone):
                    getattr(house, word)()
            else:
                self.assertEqual(exact(getattr(house, word)()), exact(len(kept["log"])))
        return kept

    def test_at_random(self):
        for seed, land in enumerate(SOME + NINE):
            dice = Dice(seed)
            house, kept = House(land), new_board(land)
            self.same(house, kept)
            told = []
            for _ in range(14):
                kept = self.step(dice, house, kept)
                self.same(house, kept)
                told.append((house.board(), copy.deepcopy(house.board())))
            # A board once told stays as it is.
            for one, other in told:
                self.assertEqual(exact(one), exact(other))

    def test_the_land_that_is_passed_stays(self):
        for land in SOME[:10]:
            house = unchanged(self, House, land)
            house.settle()
            self.assertEqual(house.board()["first"], land)

    def test_no_deeds(self):
        for land in (FOUR, ONE, ROW):
            house = House(land)
            house.do(("length", 0, 50))
            house.undo()
            before = exact(house.board())
            for value in NO_DEEDS + tuple(odd_values()):
                with self.assertRaises(BadDeed) as caught:
                    unchanged(self, house.do, value)
                self.assertIs(type(caught.exception), BadDeed)
            self.assertEqual(exact(house.board()), before)

    def test_nothing_done(self):
        house = House(FOUR)
        for call in (house.undo, house.redo, house.undo):
            with self.assertRaises(NothingDone) as caught:
                call()
            self.assertIs(type(caught.exception), NothingDone)
        self.assertEqual(house.board(), new_board(FOUR))
        self.assertEqual([house.do(("join", 0)), house.undo(), house.redo(), house.undo()], [1, 0, 1, 0])
        self.assertEqual(house.do(("join", 1)), 1)
        with self.assertRaises(NothingDone):
            house.redo()

    def test_houses_go_their_own_ways(self):
        one, other = House(FOUR), House(FOUR)
        one.do(("join", 0))
        self.assertEqual(other.board(), new_board(FOUR))

    def test_twins(self):
        for seed, land in enumerate(SOME[::3] + NINE):
            dice = Dice(seed)
            house, kept = House(land), new_board(land)
            for _ in range(8):
                kept = self.step(dice, house, kept)
            twin = house.twin()
            self.assertIs(type(twin), House)
            self.assertIsNot(twin, house)
            self.same(twin, kept)
            # What was taken back is there, too, and each goes its own way then.
            mine, theirs = kept, kept
            for _ in range(6):
                mine = self.step(dice, house, mine)
                self.same(twin, theirs)
                theirs = self.step(dice, twin, theirs)
                self.same(house, mine)

    def test_twins_of_twins(self):
        house = House(FOUR)
        house.do(("length", 0, 3))
        house.do(("join", 1))
        house.undo()
        twin = house.twin().twin()
        self.assertEqual(twin.redo(), 2)
        self.assertEqual([house.deeds(), len(twin.deeds())], [(("length", 0, 3),), 2])
        self.assertEqual([twin.undo(), twin.undo(), twin.land()], [1, 0, FOUR])


class Settled(unittest.TestCase):

    def test_settle(self):
        for seed, land in enumerate(SOME + NINE):
            dice = Dice(seed)
            house = House(land)
            house.do(some_deed(dice, land))
            kept = house.board()
            way = short_way(kept)
            self.assertEqual(exact(house.settle()), exact(len(way)))
            for deed in way:
                kept = done(kept, deed)
            self.assertEqual(exact(sorted(house.board().items())), exact(sorted(kept.items())))
            self.assertEqual([house.land()[0], house.joins()], [2, ()])
            # Each of them is a deed of its own.
            if way:
                self.assertEqual(house.undo(), len(kept["log"]) - 1)
                self.assertEqual(house.land()[0], 3)

    def test_with_two_shires(self):
        house = House(TRIPLE)
        self.assertEqual([house.settle(), house.board()], [0, new_board(TRIPLE)])
        house.do(("length", 0, 9))
        house.undo()
        # All stays, also what can be done again.
        self.assertEqual([house.settle(), house.redo(), house.settle()], [0, 1, 0])
        house = House(FOUR)
        house.do(("length", 0, 9))
        house.undo()
        self.assertEqual([house.settle(), len(house.deeds())], [2, 2])
        with self.assertRaises(NothingDone):
            house.redo()


class Shown(unittest.TestCase):

    def check(self, house):
        land = house.land()
        least = width_now(house.board())
        told = verdict(land)
        self.assertEqual(exact([house.width(), house.paper(), house.joins()]), exact([least, told[2], good_joins(land)]))
        self.assertEqual(house.paper(), told_for(land, least))
        self.assertIsNone(judge_plan(land, least + 1, house.plan()))
        self.assertEqual(exact(house.plan()), exact(in_form(house.plan())))
        for k in (1, least, least + 1, 999999999):
            self.assertEqual(exact(house.table(k)), exact(greatest_table(land, k)))
            for c in range(k % 3, corner_count(land), 3):
                for s in range(k % 2, land[0], 3):
                    self.assertEqual(exact(house.bell(k, c, s)), exact(bell_move(land, k, (c, s))))
                    for e in bell_moves(land, c)[:2]:
                        self.assertEqual(exact(house.fox(k, c, s, e)), exact(fox_move(land, k, (c, s), e)))

    def test_shown(self):
        for seed, land in enumerate(SOME[::4] + NINE[:2] + (HUNG, RING, STAR)):
            dice = Dice(seed)
            house = House(land)
            self.check(house)
            for _ in range(2):
                house.do(some_deed(dice, house.land()))
                before = exact(house.board())
                self.check(house)
                self.assertEqual(exact(house.board()), before)

    def test_by_hand(self):
        house = House(ONE)
        self.assertEqual([house.width(), house.plan(), house.paper(), house.joins(), house.table(1), house.bell(1, 0, 1), house.fox(1, 0, 1, 0)],
                         [7, (0, 1), ("shire", 0), (), None, 0, None])
        house.do(("length", 0, 2))
        self.assertEqual([house.width(), house.paper(), house.deeds()], [2, ("shire", 0), (("length", 0, 2),)])
