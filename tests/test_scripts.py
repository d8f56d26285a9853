"""[14.1]: deeds and logs as texts, and the place of BadText, for each kind of fault and each reader."""

import unittest

from foxborders.errors import BadText
from foxborders.kept import is_deed, new_board
from foxborders.scripts import deed_text, log_text, read_deed, read_log
from tests.boards_oracle import some_deeds
from tests.lands import BY_HAND, FOUR, GROWN, WOVEN, Dice
from tests.text_oracle import is_in, place_in
from tests.values import exact, odd_values, unchanged

READERS = {"deed": read_deed, "log": read_log}
WRITERS = {"deed": deed_text, "log": log_text}
SIGNS = "0123456789 -\nlengthjoisrk\t+,.A"
SIXTY = "123456789012345678901234567890123456789012345678901234567890"
GOOD = {
    "deed": ["length 0 3", "length 10 907", "join 12", "shrink 0", "length 0 0", "join 0", "shrink 100", f"length {SIXTY} {SIXTY}",
             f"join {SIXTY}"],
    "log": ["", "join 0", "length 1 2\njoin 0", "shrink 2\nlength 0 3\nshrink 2", "join 1\njoin 1\njoin 10\nlength 0 0",
            f"shrink {SIXTY}\nlength 5 {SIXTY}"],
}


class Written(unittest.TestCase):

    def test_deeds(self):
        for deed, text in ((("length", 0, 3), "length 0 3"), (("join", 12), "join 12"), (("shrink", 0), "shrink 0"),
                           (("length", 0, 0), "length 0 0"), (("length", 10 ** 59, 10 ** 60 - 1), f"length 1{'0' * 59} {'9' * 60}")):
            self.assertEqual(exact(unchanged(self, deed_text, deed)), exact(text))
            self.assertEqual(exact(unchanged(self, read_deed, text)), exact(deed))
            self.assertEqual(exact(read_log(text)), exact((deed,)))
            self.assertEqual(log_text((deed,)), text)

    def test_logs(self):
        self.assertEqual(exact([log_text(()), read_log("")]), exact(["", ()]))
        dice = Dice(11)
        for land in BY_HAND + GROWN[:20] + WOVEN[:20]:
            deeds = tuple(some_deeds(dice, land, dice.below(9), 999999999)[0])
            text = unchanged(self, log_text, deeds)
            self.assertEqual(text.split("\n"), [deed_text(deed) for deed in deeds] or [""])
            self.assertEqual(exact(unchanged(self, read_log, text)), exact(deeds))
            self.assertTrue(is_in("log", text))

    def test_read_and_written_again(self):
        for name, texts in GOOD.items():
            for text in texts:
                self.assertEqual(WRITERS[name](READERS[name](text)), text)

    def test_what_is_read_need_be_no_deed(self):
        for text in ("length 0 0", "length 0 1", "join 6", f"shrink {SIXTY}", f"length 0 {'9' * 59}0"):
            self.assertEqual(is_deed(new_board(FOUR), read_deed(text)), text == f"length 0 {'9' * 59}0")

    def test_long_logs(self):
        deeds = tuple(("join", 10 ** 59 + k) for k in range(121))
        self.assertGreater(len(log_text(deeds)), 7900)
        self.assertEqual(read_log(log_text(deeds)), deeds)
        deeds = (("length", 1, 2),) * 700
        self.assertEqual(read_log(log_text(deeds)), deeds)


class Place(unittest.TestCase):

    def place(self, name, text, place):
        with self.assertRaises(BadText) as caught:
            unchanged(self, READERS[name], text)
        self.assertIs(type(caught.exception), BadText)
        self.assertEqual([text, exact(caught.exception.place)], [text, exact(place)])

    def places(self, name, rows):
        for text, place in rows:
            self.assertEqual([text, place_in(name, text)], [text, place])
            self.place(name, text, place)

    def test_no_texts(self):
        for name in READERS:
            for value in odd_values() + [["join 1"], ("join 1",), {"join": 1}, ("join", 1), list("join 1"), (("join", 1),)]:
                if not isinstance(value, str):
                    self.place(name, value, 0)
                elif not is_in(name, value):
                    self.place(name, value, place_in(name, value))

    def test_texts_that_end_early(self):
        for name, texts in GOOD.items():
            for text in texts:
                for many in range(len(text)):
                    if not is_in(name, text[:many]):
                        self.place(name, text[:many], place_in(name, text[:many]))
        self.places("deed", [("", 0), ("l", 1), ("length", 6), ("length ", 7), ("length 0", 8), ("length 0 ", 9), ("join", 4),
                             ("join ", 5), ("shrink", 6), ("shrink ", 7)])
        self.places("log", [("j", 1), ("join 1\n", 7), ("join 1\nshr", 10), ("join 1\nlength 2", 15), ("join 1\nlength 2 ", 16)])

    def test_signs_behind_the_end(self):
        self.places("deed", [("join 1 2", 6), ("join 1 ", 6), ("join 1\n", 6), ("join 1\njoin 1", 6), ("length 0 1 2", 10),
                             ("length 0 1\n", 10), ("shrink 3.", 8)])
        self.places("log", [("join 1 2", 6), ("join 1 ", 6), ("join 1\n\njoin 1", 7), ("join 1\n join 1", 7), ("join 1\njoin 1 ", 13),
                            ("\n", 0), ("\njoin 1", 0), (" ", 0), ("join 1\n\n", 7)])

    def test_needless_noughts(self):
        self.places("deed", [("join 01", 6), ("join 00", 6), ("length 00 1", 8), ("length 0 01", 10), ("shrink 007", 8)])
        self.places("log", [("join 01", 6), ("join 1\nshrink 00", 15), ("length 1 00\njoin 1", 10)])

    def test_sixty_digits(self):
        self.places("deed", [(f"join {SIXTY}0", 65), (f"length {SIXTY}0 1", 67), (f"length 1 {SIXTY}9", 69), (f"shrink {SIXTY}{SIXTY}", 67)])
        self.places("log", [(f"join 1\njoin {SIXTY}0", 72), (f"join {SIXTY}\nlength {SIXTY} {SIXTY}1", 194)])
        self.assertEqual(read_deed(f"join {SIXTY}"), ("join", int(SIXTY)))

    def test_words_and_signs(self):
        self.places("deed", [("Join 1", 0), ("joins 1", 4), ("join  1", 5), ("join\t1", 4), ("join -1", 5), ("join +1", 5), ("join -", 5),
                             ("join x", 5), (" join 1", 0), ("lengths 1 1", 6), ("length 1  1", 9), ("length 1,1", 8), ("length 1 -1", 9),
                             ("shrunk 1", 3), ("undo", 0), ("length0 1", 6), ("shrink\n1", 6), ("length 1\n1", 8)])
        self.places("log", [("join 1,join 2", 6), ("join 1\nundo", 7), ("nothing", 0), ("join 1\r", 6), ("join 1;", 6)])

    def test_signs_that_python_takes_for_digits(self):
        for text in ("join \u0661", "join \u00b2", "join 1_0", "join \uff12"):
            for name in READERS:
                self.place(name, text, place_in(name, text))

    def test_long_texts(self):
        self.place("log", "join 1\n" * 1100, 7700)
        self.place("log", "join 1\n" * 1100 + "join", 7704)
        self.place("deed", "join 1" + " " * 7900, 6)
        self.place("deed", "1" * 8000, 0)
        self.place("deed", "join " + "1" * 7900, 65)


class Edited(unittest.TestCase):
    """Good texts with some signs changed, against a second account of the languages."""

    def read(self, name, text):
        reader = READERS[name]
        if is_in(name, text):
            self.assertEqual(WRITERS[name](reader(text)), text)
            return True
        with self.assertRaises(BadText) as caught:
            reader(text)
        self.assertEqual([text, caught.exception.place], [text, place_in(name, text)])
        return False

    def test_one_sign(self):
        for name, texts in GOOD.items():
            for text in texts[:5]:
                for at in range(len(text) + 1):
                    self.read(name, text[:at] + text[at + 1:])
                    self.read(name, text[:at] + text[at:at + 1] + text[at:])
                    for sign in SIGNS[at % 3::3]:
                        self.read(name, text[:at] + sign + text[at + 1:])
                        self.read(name, text[:at] + sign + text[at:])

    def test_several_signs(self):
        dice = Dice(32)
        read = []
        for _ in range(3000):
            name = dice.pick(sorted(GOOD))
            text = dice.pick(GOOD[name])
            for _ in range(1 + dice.below(3)):
                one, other = sorted((dice.below(len(text) + 1), dice.below(len(text) + 1)))
                text = dice.pick((text[:one] + text[other:], text[:other] + text[one:],
                                  text[:one] + dice.pick(SIGNS) + text[one:], text[:one] + dice.pick("019") + text[one + 1:]))
            read.append(self.read(name, text))
        self.assertGreater(read.count(True), 100)
        self.assertGreater(read.count(False), 1000)
