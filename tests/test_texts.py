"""[90]: the writing of towns, tables and moves, and towns and tables read back."""

import random
import unittest

from sherdhall.errors import NoText
from sherdhall.texts import read_table, read_town, show_move, show_table, show_town
from sherdhall.town import Town
from grounds import NO_NAMES, Grounds
from towns import drawn_rows, drawn_table

NO_TEXTS = [None, True, False, 0, 5, b"", b"ha@east*1", 1.0, [], ["ha@east*1"], (), {}, {"a"}, object()]
ROWS = [("hb", "west", 1000), ("ha", "east", 0), ("h", "h", 7)]
TOWN = "h@h*7 ha@east*0 hb@west*1000"
TABLE = {10: ["hb", "ha"], 9: ["xa"], 0: list("abcdefghij"), 999999999: ["z"]}
TABLE_TEXT = "0:a,b,c,d,e,f,g,h,i,j 9:xa 10:hb,ha 999999999:z"
NO_NUMBERS = ["", "00", "01", "+1", "-1", "1.0", " 1", "1_0", "x", "0x1", "\u0661", "\u00b2", "1\n", "1,0"]


class Shown(unittest.TestCase):

    def test_towns(self):
        self.assertEqual(show_town(Town(ROWS)), TOWN)
        self.assertEqual(show_town(Town()), "")
        self.assertEqual(show_town(Town([("a", "zzzzzzzz", 30)])), "a@zzzzzzzz*30")

    def test_tables(self):
        table = {ticket: list(TABLE[ticket]) for ticket in TABLE}
        self.assertEqual(show_table(table), TABLE_TEXT)
        self.assertEqual(table, TABLE)
        self.assertEqual(show_table({}), "")
        self.assertEqual(show_table({10 ** 59: ["a"], 2: ["b", "a"]}), "2:b,a " + "1" + "0" * 59 + ":a")

    def test_moves(self):
        self.assertEqual(show_move((12, 3, "ha", "hb")), "12/3:ha>hb")
        self.assertEqual(show_move((0, 0, None, "hb")), "0/0:->hb")


class ReadBack(Grounds):

    def test_back_and_forth(self):
        self.assertEqual(read_town(TOWN), Town(ROWS))
        self.assertIsInstance(read_town(TOWN), Town)
        self.assertEqual(read_table(TABLE_TEXT), TABLE)
        self.assertEqual((read_town(""), read_table("")), (Town(), {}))
        for seed in range(80):
            draw = random.Random(seed)
            rows = drawn_rows(draw, draw.randrange(13), weights=(0, 1, 9, 10, 99, 999, 1000))
            self.assertEqual(read_town(show_town(Town(rows))), Town(rows))
            table = drawn_table(draw, rows, draw.randrange(7), 10)
            self.assertEqual(read_table(show_table(table)), table)

    def test_what_is_read_is_written_alike(self):
        """Each has one writing: of texts with one sign otherwise, what is read back has just that text."""
        for text, read, show in ((TOWN, read_town, show_town), (TABLE_TEXT, read_table, show_table)):
            told = 0
            for at in range(len(text) + 1):
                for sign in "ahz019@*:,>- \n":
                    first, rest = text[:at], text[at + 1:]
                    for other in (first + sign + text[at:], first + sign + rest, first + rest):
                        try:
                            self.assertEqual(show(read(other)), other)
                            told += 1
                        except NoText as refusal:
                            self.assertIn(refusal.at, range(len(other.split(" "))))
            self.assertTrue(told > 50)

    def test_told_dicts_are_the_askers_own(self):
        told = read_table(TABLE_TEXT)
        told[9].clear()
        told.clear()
        self.assertEqual(read_table(TABLE_TEXT), TABLE)
        self.assertTrue(all(type(homes) is list for homes in read_table(TABLE_TEXT).values()))


class Refused(Grounds):

    def wrong_words(self, read, ahead, words):
        """Refuse each word, ahead of right ones and behind them, at its own number."""
        for word in words:
            self.refused(NoText, {"at": 0}, read, word + " " + ahead)
            self.refused(NoText, {"at": len(ahead.split(" "))}, read, ahead + " " + word)

    def test_words_of_a_town(self):
        words = ["", "hz", "hz@", "hz@east", "hz@east*", "@east*1", "hz@*1", "hz*1", "hz@east*1001", "hz@east*9999",
                 "hz@east*10000", "hz@east*1*1", "hz@east@east*1", "hz:east*1", "hz*1@east", "hz@east*1,", "1@east*1"]
        words += [f"hz@east*{number}" for number in NO_NUMBERS if number != " 1"]
        words += [f"{name}@east*1" for name in NO_NAMES if " " not in name]
        words += [f"hz@{name}*1" for name in NO_NAMES if " " not in name]
        self.wrong_words(read_town, "ha@east*1 hb@west*2", words)

    def test_words_of_a_table(self):
        words = ["", "9", "9:", ":ha", "9:ha,", "9:,ha", "9:ha,,hb", "9:ha,ha", "9:ha,hb,ha", "9:ha;hb", "9:ha:hb",
                 "1000000000:ha", "9:" + ",".join("abcdefghijk"), "x:ha", "9:9", "ha:9", "9;ha", "9:ha\n", "9:ha*1"]
        words += [f"{number}:ha" for number in NO_NUMBERS if number != " 1"]
        words += [f"9:{name}" for name in NO_NAMES if " " not in name]
        words += [f"9:ha,{name},hb" for name in NO_NAMES if " " not in name]
        self.wrong_words(read_table, "0:ha 7:hb,hc", words)

    def test_what_does_not_come_behind_the_word_ahead(self):
        for text, at in (("hb@a*1 ha@a*1", 1), ("hb@a*1 hb@a*1", 1), ("ha@a*1 hc@a*1 hb@a*1 ha@a*1", 2),
                         ("h@a*1 ha@a*1 h@a*1", 2), ("hb@a*1 haa@a*1", 1)):
            self.refused(NoText, {"at": at}, read_town, text)
        for text, at in (("1:a 0:a", 1), ("1:a 1:b", 1), ("9:a 10:a 2:a", 2), ("0:a 0:a", 1), ("3:a 5:a 4:a 1:a", 2)):
            self.refused(NoText, {"at": at}, read_table, text)
        self.assertEqual(read_table("9:a 10:a"), {9: ["a"], 10: ["a"]})

    def test_the_first_word_that_can_not_stand_there(self):
        self.refused(NoText, {"at": 1}, read_town, "ha@a*1 hb@a*x ha@a*1 hc")
        self.refused(NoText, {"at": 1}, read_table, "1:a 0:a 2:A")

    def test_blanks_and_line_feeds(self):
        for read, word, other in ((read_town, "ha@a*1", "hb@a*1"), (read_table, "1:a", "2:a")):
            for text, at in ((" ", 0), ("  ", 0), ("\n", 0), (" " + word, 0), (word + " ", 1), (f"{word}  {other}", 1),
                             (f"{word}\n{other}", 0), (f"{word} {other}\n", 1), (f"{word}\t{other}", 0)):
                self.refused(NoText, {"at": at}, read, text)

    def test_what_is_no_text(self):
        for thing in NO_TEXTS:
            self.refused(NoText, {"at": None}, read_town, thing)
            self.refused(NoText, {"at": None}, read_table, thing)

    def test_long_texts(self):
        for read in (read_town, read_table):
            self.refused(NoText, {"at": 0}, read, "9" * 4000)
            self.refused(NoText, {"at": 0}, read, "9" * 3990 + ":a")
            self.refused(NoText, {"at": 0}, read, " " * 4000)
        self.refused(NoText, {"at": 0}, read_town, "a@a*" + "9" * 3990)


if __name__ == "__main__":
    unittest.main()
