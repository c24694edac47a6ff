"""The desk: promise 31, and 2, 3, 7, 14, 15 and 17 as far as they go for it."""

import random
from unittest import mock

from lotheads.desk import Desk
from lotheads.errors import NoBack, NoDeed, NoJoin, NoMany, NoPair, NoRow, NoShort, NoThing
from tests import helper
from tests.helper import JOINS, SHORTS, Case

# How many numbers stand behind each word.
WORDS = {
    "find": 1, "join": 2, "steps": 0, "depth": 1, "lot": 1, "lots": 0, "back": 0, "first": 2, "strikes": 2, "paper": 2,
}

# What is no number of one to three figures.
NO_NUMBERS = [
    "", "x", "-1", "+1", "01", "00", "000", "001", "1000", "0000", "9999", "12345", "1.0", "1_0", " ", "1,", "0x1",
    "~", "None", "find", "1\n", "\n", "1\t", "10 ** 2", "1" * 50, "0" * 50,
]

NO_ROWS = [
    "", " ", "\n", "Find 0", "FIND 0", "finds 0", "find", "find ", "find 0 ", " find 0", "find  0", "find 0 0",
    "find\t0", "find 0\n", "find 0\nfind 0", "join", "join 0", "join 0 ", "join 0 1 2", "join  0 1", "join 0  1",
    "join 0 1 ", " join 0 1", "steps 0", "steps ", " steps", "step", "Steps", "depth", "depth 0 0", "lot", "lot 0 0",
    "lots 0", "lots ", "lots\n", "back 0", "back 1", "back ", "Back", "first", "first 0", "first 0 1 2", "strikes",
    "strikes 0", "strikes 0 1 2", "strike 0 1", "paper", "paper 0", "paper 0 1 2", "papers 0 1", "0", "0 find",
    "size", "say", "help", "find,0", "join 0,1", "lots;", "store", "pile", "total", "None", "True", "0 1",
    "back back",
]

SOME = ["join 0 1", "join 2 3", "join 1 0", "find 3", "join 3 1", "join 4 4", "find 1"]


class DeskModel:
    """A desk by the helper's model of stores and by flooding."""

    def __init__(self, many, join, short):
        self.many = many
        self.store = helper.Model(many, join, short)
        self.row = []
        self.total = 0

    def do(self, deed):
        answer, steps = self.store.do(deed)
        self.total += steps
        return answer

    def say(self, row):
        word, *numbers = row.split(" ")
        numbers = [int(number) for number in numbers]
        return getattr(self, f"say_{word}")(*numbers)

    def say_find(self, x):
        return str(self.do(("find", x)))

    def say_join(self, x, y):
        self.row.append((x, y))
        return "real" if self.do(("join", x, y)) else "idle"

    def say_steps(self):
        return str(self.total)

    def say_depth(self, x):
        return str(len(helper.way(self.store.ups, x)) - 1)

    def say_lot(self, x):
        return " ".join([str(y) for lot in helper.lots(self.store.ups) for y in lot if x in lot])

    def say_lots(self):
        return "; ".join([" ".join([str(y) for y in lot]) for lot in helper.lots(self.store.ups)])

    def say_back(self):
        self.row.pop()
        return "ok"

    def say_first(self, x, y):
        moments = [at for at in range(len(self.row) + 1) if y in helper.reached(self.many, self.row[:at], x)]
        return str(moments[0]) if moments else "apart"

    def say_paper(self, x, y):
        return "holds"


def told_desk(many, rows, join="size", short="none"):
    desk = Desk(many, join, short)
    for row in rows:
        desk.say(row)
    return desk


def all_questions(many):
    """Rows that change nothing, of all things of few and some of many."""
    rows = ["steps", "lots"]
    for x in range(0, many, 1 + many // 8):
        rows += [f"depth {x}", f"lot {x}"]
        rows += [f"{word} {x} {y}" for word in ("first", "paper") for y in range(0, many, 1 + many // 6)]
    return rows


def strikes_rows(many):
    return [f"strikes {x} {y}" for x in range(0, many, 1 + many // 5) for y in range(many) if x != y][:40]


def told_all(desk, many):
    return [desk.say(row) for row in all_questions(many) + strikes_rows(many)]


class ByHand(Case):
    def talk(self, desk, *said):
        for row, answer in said:
            self.same(answer, desk.say(row))

    def test_a_talk(self):
        self.talk(
            Desk(6, "size", "whole"), ("lots", "0; 1; 2; 3; 4; 5"), ("steps", "0"), ("find 5", "5"), ("steps", "0"),
            ("join 0 1", "real"), ("join 2 3", "real"), ("join 1 0", "idle"), ("steps", "1"), ("join 3 1", "real"),
            ("steps", "3"), ("depth 1", "2"), ("depth 2", "0"), ("find 1", "2"), ("steps", "5"), ("depth 1", "1"),
            ("lot 1", "0 1 2 3"), ("lot 4", "4"), ("lots", "0 1 2 3; 4; 5"), ("first 0 1", "1"), ("first 0 3", "4"),
            ("first 3 0", "4"), ("first 0 4", "apart"), ("strikes 0 1", "2"), ("strikes 0 2", "1"),
            ("strikes 0 5", "0"), ("paper 0 3", "holds"), ("paper 0 5", "holds"), ("back", "ok"),
            ("first 0 3", "apart"), ("lots", "0 1 2 3; 4; 5"), ("find 1", "2"), ("steps", "6"), ("strikes 0 1", "2"),
            ("back", "ok"), ("strikes 0 1", "1"), ("back", "ok"), ("back", "ok"), ("first 0 1", "apart"),
            ("join 0 1", "idle"), ("first 0 1", "1"), ("lot 0", "0 1 2 3"))

    def test_one_thing(self):
        for join in JOINS:
            for short in SHORTS:
                self.talk(Desk(1, join, short), ("lots", "0"), ("join 0 0", "idle"), ("find 0", "0"), ("depth 0", "0"),
                          ("lot 0", "0"), ("steps", "0"), ("first 0 0", "0"), ("paper 0 0", "holds"), ("back", "ok"))

    def test_forty_things(self):
        desk = Desk(40, "told", "none")
        self.same("; ".join([str(x) for x in range(40)]), desk.say("lots"))
        for x in range(38, -1, -1):
            self.same("real", desk.say(f"join {x} 39"))
        self.same(" ".join([str(x) for x in range(40)]), desk.say("lots"))
        self.same(" ".join([str(x) for x in range(40)]), desk.say("lot 17"))
        self.same("39", desk.say("depth 39"))
        self.same("0", desk.say("find 39"))
        self.same(str(sum(range(39)) + 39), desk.say("steps"))
        self.same("39", desk.say("first 0 39"))
        self.same("1", desk.say("strikes 0 38"))

    def test_alike_things(self):
        desk = told_desk(6, SOME)
        for x in range(6):
            self.same("0", desk.say(f"first {x} {x}"))
            self.same("holds", desk.say(f"paper {x} {x}"))
            self.refused(NoPair, desk.say, f"strikes {x} {x}")

    def test_real_is_told_by_the_store(self):
        desk = told_desk(3, ["join 0 1", "back"])
        self.same("apart", desk.say("first 0 1"))
        self.same("idle", desk.say("join 0 1"))
        self.same("1", desk.say("first 0 1"))

    def test_back_with_no_join_on_the_pile(self):
        desk = Desk(3, "size", "none")
        for turn in range(3):
            self.refused(NoBack, desk.say, "back")
            desk.say("find 0")
            self.refused(NoBack, desk.say, "back")
            desk.say("join 0 1")
            self.same("ok", desk.say("back"))

    def test_back_takes_idle_joins_one_by_one(self):
        desk = told_desk(3, ["join 0 1", "join 1 0", "join 2 2"])
        for strikes in ("2", "1", "0"):
            self.same("ok", desk.say("back"))
            self.same(strikes, desk.say("strikes 0 1"))

    def test_a_paper_is_the_house_s_paper_of_two_by_the_pile_and_the_checker_s_to_take(self):
        desk = told_desk(3, ["join 0 1", "join 1 2", "join 2 0", "back"])
        asked = []
        for taken, answer in ((True, "holds"), (False, "no")):
            with mock.patch("lotheads.desk.holds", lambda *both: asked.append(both) or taken):
                self.same(answer, desk.say("paper 0 2"))
        self.same([(("one", 3, ((0, 1), (1, 2)), 0, 2), (0, 1))] * 2, asked)

    def test_a_find_is_no_join(self):
        desk = told_desk(3, ["join 0 1", "find 0", "find 1", "back"])
        self.same("0", desk.say("strikes 0 1"))
        self.same("0 1; 2", desk.say("lots"))
        self.refused(NoBack, desk.say, "back")


class ManyTalks(Case):
    def rows(self, rng, many, length):
        rows = []
        for deed in helper.random_row(rng, many, length):
            rows.append(" ".join([str(part) for part in deed]))
            if rng.random() < 0.15:
                rows.append("back")
        return rows

    def test_by_the_model(self):
        rng = random.Random(121)
        for join in JOINS:
            for short in SHORTS:
                for many in (2, 5, 40):
                    desk, model = Desk(many, join, short), DeskModel(many, join, short)
                    for row in self.rows(rng, many, 40):
                        if row == "back" and not model.row:
                            self.refused(NoBack, desk.say, row)
                            continue
                        self.same(model.say(row), desk.say(row))
                        asked = rng.choice(all_questions(many))
                        self.same(model.say(asked), desk.say(asked))
                    for row in all_questions(many):
                        self.same(model.say(row), desk.say(row))

    def test_strikes_are_as_few_as_roads(self):
        rng = random.Random(122)
        for turn in range(12):
            row = helper.random_joins(rng, 5, 7)
            desk = told_desk(5, [f"join {x} {y}" for x, y in row])
            for x, y in ((0, 1), (3, 2), (4, 0)):
                how = int(desk.say(f"strikes {x} {y}"))
                self.assertTrue(self.apart_without(row, x, y, how))
                self.assertFalse(how > 0 and self.apart_without(row, x, y, how - 1))

    def apart_without(self, row, x, y, how):
        if how == 0:
            return y not in helper.reached(5, row, x)
        return any([self.apart_without(row[:at] + row[at + 1:], x, y, how - 1) for at in range(len(row))])

    def test_a_question_changes_nothing(self):
        for join in JOINS:
            for short in SHORTS:
                desk = told_desk(6, SOME, join, short)
                told = told_all(desk, 6)
                for turn in range(2):
                    self.same(told, told_all(desk, 6))

    def test_two_desks_answer_each_of_its_own(self):
        one, other = Desk(6, "size", "none"), Desk(6, "size", "none")
        empty = told_all(other, 6)
        for row in SOME:
            one.say(row)
            self.same(empty, told_all(other, 6))
        told = told_all(one, 6)
        for row in ("join 4 5", "find 4", "back"):
            other.say(row)
            self.same(told, told_all(one, 6))
        self.same("0 1 2 3; 4; 5", one.say("lots"))
        self.same("0; 1; 2; 3; 4 5", other.say("lots"))

    def test_what_is_told_is_a_text(self):
        desk = told_desk(6, SOME)
        for answer in told_all(desk, 6) + [desk.say("find 0"), desk.say("join 0 5"), desk.say("back")]:
            self.assertIs(str, type(answer))

    def test_sixty_deeds(self):
        desk, model = Desk(9, "rank", "halves"), DeskModel(9, "rank", "halves")
        for turn in range(60):
            row = f"join {turn * 5 % 9} {turn * 7 % 9}"
            self.same(model.say(row), desk.say(row))
        for row in all_questions(9):
            self.same(model.say(row), desk.say(row))


class Refusals(Case):
    def unchanged(self, desk, told, kind, row):
        """The row is refused so, and all that the desk tells stays; gives the error."""
        error = self.refused(kind, desk.say, row)
        self.same(told, told_all(desk, 6))
        return error

    def test_of_new_desks(self):
        for wrong in helper.wrong_manies():
            self.refused(NoMany, Desk, wrong, "size", "none")
            self.refused(NoMany, Desk, wrong, wrong, wrong)
        for wrong in helper.wrong_words(JOINS):
            self.refused(NoJoin, Desk, 6, wrong, "none")
            self.refused(NoJoin, Desk, 6, wrong, wrong)
        for wrong in helper.wrong_words(SHORTS):
            self.refused(NoShort, Desk, 6, "size", wrong)
            self.refused(NoMany, Desk, 41, "size", wrong)

    def test_no_rows_of_any_kind(self):
        desk = told_desk(6, SOME)
        told = told_all(desk, 6)
        for wrong in NO_ROWS + helper.wrong_things() + helper.deep_things(12) + [0, 1, (), b"find 0", ("find", 0)]:
            self.refused(NoRow, desk.say, wrong)
        for wrong in ([], ["find 0"], ["lots"], {"lots": 0}, {"steps"}, ("back",)):
            self.refused(NoRow, desk.say, wrong)
        self.same(told, told_all(desk, 6))
        for row in NO_ROWS[::5]:
            self.unchanged(desk, told, NoRow, row)

    def test_no_numbers_at_each_place(self):
        desk = told_desk(6, SOME)
        told = told_all(desk, 6)
        for word, count in WORDS.items():
            for at in range(count):
                for wrong in NO_NUMBERS:
                    numbers = ["0", "1"][:count]
                    numbers[at] = wrong
                    self.refused(NoRow, desk.say, " ".join([word] + numbers))
                    beyond = ["999", "999"][:count]
                    beyond[at] = wrong
                    self.refused(NoRow, desk.say, " ".join([word] + beyond))
        self.same(told, told_all(desk, 6))

    def test_another_number_of_words(self):
        desk = told_desk(6, SOME)
        for word, count in WORDS.items():
            for others in range(5):
                if others != count:
                    self.refused(NoRow, desk.say, " ".join([word] + ["0", "1", "2", "3"][:others]))
                    self.refused(NoRow, desk.say, " ".join([word] + ["999"] * others))

    def test_things_beyond(self):
        desk = told_desk(6, SOME)
        told = told_all(desk, 6)
        for x in (6, 7, 10, 39, 40, 99, 100, 999):
            rows = [f"find {x}", f"join {x} 0", f"join 0 {x}", f"join {x} {x}"]
            for row in rows:
                self.same(0, self.unchanged(desk, told, NoDeed, row).number)
            self.unchanged(desk, told, NoThing, f"depth {x}")
            self.unchanged(desk, told, NoThing, f"lot {x}")
            for word in ("first", "strikes", "paper"):
                for row in (f"{word} {x} 0", f"{word} 0 {x}", f"{word} {x} {x}"):
                    self.unchanged(desk, told, NoThing, row)
        for x in (1000, 9999, 10 ** 9):
            for row in (f"find {x}", f"join 0 {x}", f"depth {x}", f"lot {x}", f"first 0 {x}", f"paper {x} 0"):
                self.unchanged(desk, told, NoRow, row)

    def test_things_of_other_desks(self):
        for many in (1, 10, 39, 40):
            desk = Desk(many, "names", "one")
            self.same(str(many - 1), desk.say(f"find {many - 1}"))
            self.same(0, self.refused(NoDeed, desk.say, f"find {many}").number)
            self.refused(NoThing, desk.say, f"lot {many}")

    def test_a_refused_join_is_not_on_the_pile(self):
        desk = Desk(3, "size", "none")
        for row in ("join 0 3", "join 3 0", "join 0", "join 0 01", "join 0 1 "):
            with self.assertRaises(ValueError):
                desk.say(row)
            self.refused(NoBack, desk.say, "back")
            self.same("0; 1; 2", desk.say("lots"))
            self.same("0", desk.say("steps"))
        self.same("real", desk.say("join 0 1"))
        self.refused(NoDeed, desk.say, "join 1 3")
        self.same("1", desk.say("first 0 1"))
        self.same("0", desk.say("steps"))
        self.same("ok", desk.say("back"))
        self.refused(NoBack, desk.say, "back")
