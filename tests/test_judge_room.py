"""[11.7]: room papers, and what their judge tells of any value."""

import unittest

from foxborders.binding import judge_room, room_of, room_paper
from foxborders.land import with_length
from foxborders.plans import rooted, width
from foxborders.tables import thin_table
from foxborders.verdicts import least_width
from tests.lands import BY_HAND, FOUR, GROWN, ONE, RING, STAR, WOVEN, Dice
from tests.plans_oracle import in_form, plan_fault, random_plan, whole
from tests.test_binding import CHAIN, EACH, SMALL, SOME, TWELVE
from tests.test_judge_verdicts import paper_fault
from tests.values import changes, exact, odd_values, unchanged

THREE = (3, ((0, 1), (0, 2), (1, 2)), ((0, 1), (0, 2), (1, 2)), (1, 1, 1))


def longer(land, e, more):
    return land[:3] + (land[3][:e] + (land[3][e] + more,) + land[3][e + 1:],)


def room_fault(land, e, value):
    if type(value) is not tuple or len(value) != 5 or not whole(value[0]) or not whole(value[1]):
        return ("form",)
    least, room, plan, low, high = value
    if least < 1 or room < 0:
        return ("form",)
    faults = (("plan", plan_fault(longer(land, e, room), least + 1, plan)), ("low", paper_fault(land, least, low)),
              ("high", paper_fault(longer(land, e, room + 1), least + 1, high)))
    wrong = [fault for fault in faults if fault[1] is not None]
    return wrong[0] if wrong else None


class RoomPapers(unittest.TestCase):

    def judged(self, land, e, value):
        fault = room_fault(land, e, value)
        self.assertEqual(exact(unchanged(self, judge_room, land, e, value)), exact(fault), value)
        return fault and fault[0]

    def test_papers(self):
        words = set()
        for land in SMALL + SOME[::2] + TWELVE:
            for e in range(0, len(land[1]), 2):
                told = unchanged(self, room_paper, land, e)
                least, room, plan, low, high = told
                self.assertEqual(exact((least, room)), exact((least_width(land), room_of(land, e))))
                self.assertEqual(width(longer(land, e, room), plan), least)
                self.assertEqual(plan, in_form(plan))
                self.assertIsNone(self.judged(land, e, told))
                words.add((low[0], high[0]))
        self.assertEqual(words, {("shire", "shire"), ("table", "shire"), ("shire", "table"), ("table", "table")})

    def test_any_right_paper_is_let(self):
        for land in (EACH, CHAIN, WOVEN[4], TWELVE[0]):
            for e in (0, len(land[1]) - 1):
                least, room, plan, low, high = room_paper(land, e)
                self.assertIsNone(judge_room(land, e, (least, room, rooted(plan, 1), low, high)))
                if low[0] == "table":
                    thin = ("table", thin_table(land, least, low[1]))
                    self.assertIsNone(judge_room(land, e, (least, room, plan, thin, high)))
                if high[0] == "table":
                    thin = ("table", thin_table(longer(land, e, room + 1), least + 1, high[1]))
                    self.assertIsNone(judge_room(land, e, (least, room, plan, low, thin)))

    def test_none_tells_that_both_are_right(self):
        dice = Dice(12)
        right = 0
        for land in SMALL[::3]:
            for e in range(len(land[1])):
                told = room_paper(land, e)
                for _ in range(12):
                    least, room = told[0] - 1 + dice.below(3), max(told[1] - 1 + dice.below(3), 0)
                    plan = dice.pick((told[2], random_plan(dice, range(land[0]))))
                    value = (least, room, plan, dice.pick((told[3], ("shire", dice.below(land[0])))),
                             dice.pick((told[4], ("shire", dice.below(land[0])))))
                    if self.judged(land, e, value) is None:
                        self.assertEqual((least, room), told[:2])
                        right += 1
        self.assertGreater(right, 30)

    def test_any_value(self):
        good = room_paper(EACH, 0)
        for value in odd_values():
            self.assertEqual(judge_room(EACH, 0, value), ("form",))
            for at in range(5):
                self.judged(EACH, 0, good[:at] + (value,) + good[at + 1:])

    def test_form(self):
        good = room_paper(RING, 2)
        for value in (list(good), good[:4], good + (None,), (True,) + good[1:], (2, False) + good[2:], (0,) + good[1:], (2, -1) + good[2:],
                      ("2",) + good[1:], (2, None) + good[2:], ((2,), 0) + good[2:], (), "abcde", {k: 1 for k in range(5)}, None):
            self.assertEqual(judge_room(RING, 2, value), ("form",), value)
        self.assertIsNone(judge_room(RING, 2, good))

    def test_great_numbers(self):
        great = 10 ** 59
        plan = ((0, 1), (2, 3))
        self.assertEqual(judge_room(RING, 0, (great, 0, plan, ("shire", 0), None)), ("low", ("short", 2)))
        self.assertEqual(judge_room(RING, 0, (2, great, plan, ("shire", 0), None)), ("plan", ("long", (0,), great + 2)))
        self.assertEqual(judge_room(RING, 0, (great + 2, great, plan, ("shire", 0), None)), ("low", ("short", 2)))
        self.assertEqual(judge_room(ONE, 0, (7, 0, (0, 1), ("shire", 0), ("shire", 1))), None)
        self.judged(EACH, 0, (great, great, plan, room_paper(EACH, 0)[3], ("shire", 0)))
        self.judged(EACH, 0, (4, great * 1000, plan, room_paper(EACH, 0)[3], ("shire", 0)))

    def test_sequence_of_faults(self):
        plan = ((0, 1), 2)
        self.assertEqual(judge_room(THREE, 2, (1, 0, plan, None, None)), ("plan", ("long", (0,), 2)))
        self.assertEqual(judge_room(THREE, 2, (2, 0, (0, 1), None, None)), ("plan", ("shire", 2)))
        self.assertEqual(judge_room(THREE, 2, (2, 0, [0, 1], None, None)), ("plan", ("form",)))
        self.assertEqual(judge_room(THREE, 2, (2, 0, plan, None, None)), ("low", ("form",)))
        self.assertEqual(judge_room(THREE, 2, (2, 0, plan, ("shire", 3), None)), ("low", ("form",)))
        self.assertEqual(judge_room(THREE, 2, (3, 0, plan, ("shire", 1), None)), ("low", ("short", 2)))
        self.assertEqual(judge_room(THREE, 2, (2, 0, plan, ("shire", 1), None)), ("high", ("form",)))
        # Shire 0 does not lie at the border that is longer.
        self.assertEqual(judge_room(THREE, 2, (2, 0, plan, ("shire", 1), ("shire", 0))), ("high", ("short", 2)))
        self.assertIsNone(judge_room(THREE, 2, (2, 0, plan, ("shire", 0), ("shire", 1))))
        self.assertEqual(judge_room(THREE, 2, (2, 1, plan, ("shire", 0), ("shire", 1))), ("plan", ("long", (0, 1), 3)))
        # A plan of the land is none of the land with the border as long as it can be.
        least, room, _, low, high = room_paper(EACH, 0)
        self.assertEqual(judge_room(EACH, 0, (least, room, ((0, 2), (1, 3)), low, high)), ("plan", ("long", (0, 2), 5)))
        self.assertEqual(self.judged(EACH, 0, (least, room - 1, ((0, 1), (2, 3)), low, high)), "high")

    def test_one_part_changed(self):
        for land, e in ((ONE, 0), (THREE, 1), (STAR, 2), (RING, 0), (EACH, 5)):
            for value in changes(room_paper(land, e)):
                self.judged(land, e, value)

    def test_of_another_border_or_land(self):
        told = []
        for land in (FOUR, WOVEN[1], GROWN[4], BY_HAND[2]):
            for e in range(len(land[1])):
                value = room_paper(land, e)
                for f in range(len(land[1])):
                    told.append(self.judged(land, f, value))
                    told.append(self.judged(with_length(land, f, land[3][f] + 1), e, value))
        self.assertEqual(set(told), {None, "plan", "high"})
