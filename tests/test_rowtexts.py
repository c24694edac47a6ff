"""Rows of deeds as texts: promise 30, and 2, 4 and 7 as far as they go for them."""

import random

from lotheads.errors import NoDeed, NoMany, NoText
from lotheads.rowtexts import read_row, show_row
from tests import helper
from tests.helper import Case

ROW = (("join", 0, 1), ("find", 39), ("join", 10, 10), ("find", 0))
TEXT = "join 0 1\nfind 39\njoin 10 10\nfind 0"

# Rows of a text that are none, of forty things.
BAD_ROWS = [
    "", " ", "find", "join", "find ", "join ", "join 1", "join 1 ", "find 1 2", "join 1 2 3", " find 1", "find 1 ",
    "find  1", "find\t1", "join 1  2", "join  1 2", "join 1 2 ", " join 1 2", "find 01", "find 00", "find 007",
    "join 0 01", "join 00 1", "join 01 1", "find -1", "find +1", "find -0", "find 1.0", "find 1_0", "find x",
    "find 0x1", "find 40", "find 41", "find 100", "find 999", "find 1000", "join 40 0", "join 0 40", "join 0 400",
    "FIND 1", "Find 1", "finds 1", "joins 1 2", "Join 1 2", "join1 2", "find1", "1", "0 find", "1 find", "find find",
    "find 1,", "join 1,2", "join 1, 2", "join (1 2)", "('find', 1)", "find 1\r", "find 1\x0b", "find 1;", "steps",
    "lots", "back", "depth 1", "find None", "find True", "join None 1", "find 99999999999999999999999999", "find ~",
    "find 1 find 1", "find " + "1" * 200, "find " + "0" * 200, "find 1e0",
]


def rows_to_write(seed):
    rng = random.Random(seed)
    rows = [(1, ()), (40, ()), (40, ROW), (1, (("find", 0),) * 60), (1, (("join", 0, 0),) * 60)]
    for many in (1, 2, 9, 10, 11, 39, 40):
        for length in (1, 2, 7, 59, 60):
            rows.append((many, helper.random_row(rng, many, length)))
    return rows


class Texts(Case):
    def refused_row(self, row, *arguments):
        error = self.refused(NoText, read_row, *arguments)
        self.assertEqual(repr(row), repr(error.row))

    def test_by_hand(self):
        self.told(TEXT, show_row, ROW)
        self.told(ROW, read_row, 40, TEXT)
        self.told("find 0", show_row, (("find", 0),))
        self.told((("find", 0),), read_row, 1, "find 0")
        self.told("join 7 12\njoin 0 0", show_row, (("join", 7, 12), ("join", 0, 0)))

    def test_no_deeds_are_no_sign(self):
        self.told("", show_row, ())
        for many in (1, 7, 40):
            self.told((), read_row, many, "")

    def test_what_is_written_is_read(self):
        for many, row in rows_to_write(111):
            text = show_row(row)
            self.told(text, show_row, row)
            self.told(row, read_row, many, text)
            lines = [" ".join([str(part) for part in deed]) for deed in row]
            self.same("\n".join(lines), text)

    def test_each_thing(self):
        for many in (1, 2, 9, 10, 11, 40):
            for x in range(many):
                self.told((("find", x), ("join", x, 0)), read_row, many, f"find {x}\njoin {x} 0")
                self.told(f"find {x}\njoin 0 {x}", show_row, (("find", x), ("join", 0, x)))
            for x in (many, many + 1, 99, 100, 999, 1000):
                self.refused_row(0, many, f"find {x}")
                self.refused_row(1, many, f"find 0\njoin 0 {x}")
                self.refused_row(2, many, f"find 0\njoin 0 0\njoin {x} 0")

    def test_bad_rows_at_each_place(self):
        lines = TEXT.split("\n")
        for bad in BAD_ROWS:
            if bad:
                self.refused_row(0, 40, bad)
            for at in range(len(lines)):
                self.refused_row(at, 40, "\n".join(lines[:at] + [bad] + lines[at + 1:]))
                self.refused_row(at, 40, "\n".join(lines[:at] + [bad] + lines[at:]))
                self.refused_row(at, 40, "\n".join(lines[:at] + [bad, bad] + lines[at:]))

    def test_line_ends_too_many(self):
        self.refused_row(1, 40, "find 1\n")
        self.refused_row(0, 40, "\nfind 1")
        self.refused_row(0, 40, "\n")
        self.refused_row(0, 40, "\n\n")
        self.refused_row(1, 40, "find 1\n\nfind 1")
        self.refused_row(4, 40, TEXT + "\n")
        self.refused_row(0, 40, "\n" + TEXT)
        self.refused_row(0, 40, "find 1\r\nfind 1")
        self.refused_row(0, 40, "find 1\rfind 1")

    def test_sixty_rows_and_more(self):
        for line, deed in (("find 0", ("find", 0)), ("join 0 0", ("join", 0, 0))):
            self.told((deed,) * 60, read_row, 1, "\n".join([line] * 60))
            for count in (61, 62, 100):
                self.refused_row(60, 1, "\n".join([line] * count))
                self.refused_row(60, 1, "\n".join([line] * 60 + ["bad"] * (count - 60)))
            self.refused_row(60, 1, "\n".join([line] * 60) + "\n")
            self.refused_row(0, 1, "\n" + "\n".join([line] * 60))
            for at in (0, 1, 58, 59):
                self.refused_row(at, 1, "\n".join([line] * at + ["bad"] + [line] * 40))
            self.refused_row(60, 1, "\n".join([line] * 70 + ["bad"]))

    def test_all_signs_beside_a_row(self):
        for code in list(range(32, 127)) + [10]:
            sign = chr(code)
            if not sign.isdigit():
                self.refused_row(1 if sign == "\n" else 0, 40, "find 1" + sign)
            self.refused_row(0, 40, sign + "find 1")
            if sign != " ":
                self.refused_row(0, 40, "find" + sign + "1")
                if not sign.isdigit():
                    self.refused_row(0, 40, "join 1" + sign + "2")

    def test_what_is_no_text(self):
        kinds = [thing for thing in helper.wrong_things() if not isinstance(thing, str)] + helper.deep_things(12)
        for wrong in kinds + [b"find 0", ["find 0"], ("find 0",), (("find", 0),), (), 0, 1, {"find 0": 0}]:
            self.refused_row(0, 40, wrong)

    def test_other_texts(self):
        for wrong in helper.wrong_things():
            if isinstance(wrong, str) and wrong:
                self.refused_row(0, 40, wrong)

    def test_no_many_of_any_kind_ahead_of_the_text(self):
        for wrong in helper.wrong_manies():
            for text in (TEXT, "", "bad", None, 7, wrong):
                self.refused(NoMany, read_row, wrong, text)

    def test_what_is_no_row_of_deeds_is_not_written(self):
        for wrong in helper.wrong_rows():
            self.refused_at(None, NoDeed, show_row, wrong)
        for wrong in helper.wrong_deeds(40):
            for number in range(len(ROW)):
                self.refused_at(number, NoDeed, show_row, helper.with_place(ROW, number, wrong) + (None,))
