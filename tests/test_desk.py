"""[34, 35] The desk: its rows, and what it refuses, in which order."""

import unittest

from stillweb.backs import back
from stillweb.desk import Desk
from stillweb.errors import NoKind, NoMessenger, NoName, NoRow, NoStep, NoText, TooLong, TooMany, Twice, Unknown
from stillweb.gates import on
from stillweb.leaps import leapt
from stillweb.linking import linked
from stillweb.messenger import entry_text
from stillweb.plain import plain
from stillweb.reader import read
from stillweb.stands import machine_of
from stillweb.walk import walked
from stillweb.webs import laid
from stillweb.writer import written
from tests.runs import FIB, INC, RUNS, SUM_TO, TWICE
from tests.test_linking import pairs
from tests.walks import DOOR, ended

DOUBLE = "inputs n tell ( call ( fn x num ( + x x ) ) n )"
ENDLESS = "inputs tell ( rec x num x )"
GROWING = "inputs tell ( rec x num ( + ( + x 1 ) ( + x x ) ) )"
SUMMING = f"inputs n tell ( call {SUM_TO} n )"

# Kept by these names at the desks of most tests.
KEPT = (
    ("double", DOUBLE), ("seven", "inputs tell 7"), ("less", "inputs a b tell ( - a b )"),
    ("four", "inputs a b c d tell ( - ( * a b ) ( + c d ) )"), ("inc", f"inputs tell {INC}"),
    ("incn", "inputs n tell ( fn x num ( + x n ) )"), ("asks", "inputs n tell ( fn f < num num > ( call f n ) )"),
    ("twice", f"inputs tell {TWICE}"), ("loop", ENDLESS), ("grow", GROWING), ("sum", SUMMING),
    ("same", "inputs n tell n"),
)


def opened():
    """A desk that keeps these."""
    desk = Desk()
    for name, text in KEPT:
        desk.say(f"keep {name} {text}")
    return desk


class AtDesk(unittest.TestCase):
    def refused(self, desk, row, due, **fields):
        with self.assertRaises(due, msg=row) as caught:
            desk.say(row)
        self.assertIs(type(caught.exception), due, row)
        for field, thing in fields.items():
            self.assertEqual(getattr(caught.exception, field), thing, row)

    def tells(self, desk, row, due):
        told = desk.say(row)
        self.assertEqual(told, due, row)
        self.assertIs(type(told), str)


class Rows(AtDesk):
    def test_keep(self):
        desk = Desk()
        self.tells(desk, f"keep double {DOUBLE}", "num")
        self.tells(desk, f"keep inc inputs tell {INC}", "< num num >")
        self.tells(desk, f"keep twice inputs tell {TWICE}", "< < num num > < num num > >")
        self.tells(desk, "keep a inputs tell 0", "num")
        self.tells(desk, "keep keep inputs tell 3", "num")
        self.tells(desk, "run keep", "3 in 0")
        self.tells(desk, "keep set inputs tell 4", "num")
        self.tells(desk, "set set", "set")

    def test_run_walk_leap_stands(self):
        desk = opened()
        self.tells(desk, "run double 21", "42 in 2")
        self.tells(desk, "walk double 21", "42 in 17")
        self.tells(desk, "leap double 21", "42 in 15")
        self.tells(desk, "stands double", "18")
        self.tells(desk, "run seven", "7 in 0")
        self.tells(desk, "walk seven", "7 in 1")
        self.tells(desk, "leap seven", "7 in 1")
        self.tells(desk, "stands seven", "2")
        self.tells(desk, "run four 6 7 1 1", "40 in 3")
        self.tells(desk, "walk four 6 7 1 1", "40 in 13")
        self.tells(desk, "run less 999999999999999999 0", "999999999999999999 in 1")

    def test_link(self):
        desk = opened()
        self.tells(desk, "link inc seven", "8 by 3")
        self.tells(desk, "link asks incn 4", "8 by 5")
        self.tells(desk, "link incn same 4", "8 by 3")

    def test_all_by_the_functions(self):
        desk, moved = Desk(), 0
        for program, web, values, number, stops, slips in ended()[::4]:
            self.tells(desk, f"keep p {written(program)}", "num")
            behind = "".join(f" {value}" for value in values)
            rows = (("run", lambda: plain(program, values, 500)),
                    ("walk", lambda: walked(web, values, 500)), ("leap", lambda: leapt(web, values, 500)))
            for word, asked in rows:
                try:
                    told = asked()
                except (TooLong, TooMany) as refusal:
                    self.refused(desk, f"{word} p{behind}", type(refusal), most=refusal.most)
                    continue
                many = told[1] if word == "run" else len(told[1]) - 1
                self.tells(desk, f"{word} p{behind}", f"{told[0]} in {many}")
                moved += 1
            try:
                self.tells(desk, "stands p", str(len(machine_of(web, 100))))
            except TooMany:
                self.refused(desk, "stands p", TooMany, most=100)
        self.assertGreater(moved, 400)

    def test_links_by_the_function(self):
        desk = Desk()
        for one, other, values, call, walk in pairs()[::5]:
            desk.say(f"keep one {written(one)}")
            desk.say(f"keep other {written(other)}")
            row = "link one other" + "".join(f" {value}" for value in values)
            try:
                number, crossings = linked(laid(one), laid(other), values, 500)
            except TooLong:
                self.refused(desk, row, TooLong, most=500)
                continue
            self.tells(desk, row, f"{number} by {len(crossings)}")

    def test_numbers_of_a_run(self):
        desk = Desk()
        for text, values, number in RUNS:
            desk.say(f"keep p {text}")
            row = "run p" + "".join(f" {value}" for value in values)
            self.assertEqual(desk.say(row).split(" ")[:2], [str(number), "in"])

    def test_a_name_kept_anew(self):
        desk = opened()
        self.tells(desk, "keep double inputs a b tell ( + a b )", "num")
        self.tells(desk, "run double 1 2", "3 in 1")
        self.refused(desk, "run double 21", NoRow)
        self.tells(desk, f"keep double inputs tell {INC}", "< num num >")
        self.refused(desk, "run double", NoRow)
        self.tells(desk, "link double seven", "8 by 3")

    def test_a_text_that_is_refused_changes_nothing(self):
        desk = opened()
        for text in ("", "inputs tell", "inputs x x tell 1", "inputs tell y", "inputs tell ( call 1 2 )"):
            for name in ("double", "new"):
                self.assertRaises((NoText, Twice, NoName, NoKind), desk.say, f"keep {name} {text}")
            self.tells(desk, "run double 4", "8 in 2")
            self.refused(desk, "run new", Unknown, name="new")

    def test_most_moves_steps_and_stands(self):
        desk = opened()
        for value in range(0, 12):
            try:
                number, steps = plain(read(SUMMING), (value,), 500)
                self.tells(desk, f"run sum {value}", f"{number} in {steps}")
            except TooMany:
                self.refused(desk, f"run sum {value}", TooMany, most=200)
            try:
                number, stops, slips = walked(laid(read(SUMMING)), (value,), 500)
                self.tells(desk, f"walk sum {value}", f"{number} in {len(stops) - 1}")
            except TooLong:
                self.refused(desk, f"walk sum {value}", TooLong, most=500)
        self.refused(desk, "run loop", TooLong, most=500)
        self.refused(desk, "walk loop", TooLong, most=500)
        self.refused(desk, "leap loop", TooLong, most=500)
        self.refused(desk, "stands loop", TooMany, most=100)
        self.refused(desk, "run grow", TooMany, most=200)

    def test_just_most_steps(self):
        desk = Desk()
        for sums, due in ((16, "227 in 500"), (17, None)):
            ones = "( + 1 " * sums + "1" + " )" * sums
            desk.say(f"keep p inputs n tell ( + {ones} ( call {SUM_TO} n ) )")
            if due is None:
                self.refused(desk, "run p 20", TooLong, most=500)
            else:
                self.tells(desk, "run p 20", due)

    def test_just_most_moves_and_stands(self):
        """A chain of sums has four moves for each sum and one more; stands as many as stops."""
        def chain(sums, last="1"):
            return "inputs tell " + "( + 1 " * sums + last + " )" * sums

        desk = Desk()
        for sums in (124, 125):
            desk.say(f"keep p {chain(sums)}")
            if sums == 124:
                self.tells(desk, "walk p", f"125 in {4 * 124 + 1}")
                self.tells(desk, "leap p", f"125 in {4 * 124 + 1}")
            else:
                self.refused(desk, "walk p", TooLong, most=500)
                self.refused(desk, "leap p", TooLong, most=500)
        desk.say(f"keep p {chain(124, '( rec x num 1 )')}")
        self.tells(desk, "walk p", "125 in 499")
        desk.say(f"keep p {chain(124, '( rec x num ( rec x num 1 ) )')}")
        self.refused(desk, "walk p", TooLong, most=500)
        for sums, last, due in ((24, "1", 98), (24, "( rec x num 1 )", 100), (24, "( let x 0 ( rec x num 1 ) )", None)):
            desk.say(f"keep p {chain(sums, last)}")
            if due is None:
                self.refused(desk, "stands p", TooMany, most=100)
            else:
                self.tells(desk, "stands p", str(due))
        number, crossings = linked(laid(read("inputs tell ( fn x num x )")), laid(read(chain(122))), (), 2000)
        self.assertEqual(sum(row[5] for row in crossings) + len(crossings) + 1, 497)
        desk.say("keep one inputs tell ( fn x num x )")
        for sums in (122, 123):
            desk.say(f"keep other {chain(sums)}")
            if sums == 122:
                self.tells(desk, "link one other", "123 by 3")
            else:
                self.refused(desk, "link one other", TooLong, most=500)


class OnTheWay(AtDesk):
    def test_set_on_back_here(self):
        desk = opened()
        self.tells(desk, "set double 21", "set")
        self.tells(desk, "here", "0 in asks tape log roll 0")
        self.tells(desk, "back 1", "0")
        self.tells(desk, "on 0", "0")
        self.tells(desk, "here", "0 in asks tape log roll 0")
        self.tells(desk, "on 1", "1")
        self.tells(desk, "here", "1 in asks tape on log roll 0")
        self.tells(desk, "on 3", "3")
        self.tells(desk, "here", "1 out asks tape s0 log roll 0")
        self.tells(desk, "on 2", "2")
        self.tells(desk, "here", "5 out 21 tape log s0 roll 0")
        self.tells(desk, "back 1", "1")
        self.tells(desk, "here", "5 in asks tape log s0 roll 0")
        self.tells(desk, "on 500", "12")
        self.tells(desk, "here", "0 out 42 tape log roll 1")
        self.tells(desk, "on 500", "0")
        self.tells(desk, "back 3", "3")
        self.tells(desk, "here", "4 out 21 tape log n21 roll 0")
        self.tells(desk, "back 500", "14")
        self.tells(desk, "here", "0 in asks tape log roll 0")

    def test_set_anew(self):
        desk = opened()
        desk.say("set double 21")
        desk.say("on 500")
        self.tells(desk, "set less 9 4", "set")
        self.tells(desk, "here", "0 in asks tape log roll 0")
        self.tells(desk, "on 500", "5")
        self.tells(desk, "here", "0 out 5 tape log roll 1")
        self.tells(desk, "set double 0", "set")
        self.tells(desk, "on 9", "9")
        # Slips are numbered from 0 again.
        self.tells(desk, "on 1", "1")
        self.tells(desk, "here", "1 out asks tape s1 log roll 0")

    def test_the_program_kept_anew_while_the_messenger_is_on_its_way(self):
        desk = opened()
        desk.say("set double 21")
        desk.say("on 7")
        desk.say("keep double inputs tell 5")
        self.tells(desk, "on 500", "10")
        self.tells(desk, "here", "0 out 42 tape log roll 1")
        self.tells(desk, "back 500", "17")
        self.tells(desk, "set double", "set")
        self.tells(desk, "on 500", "1")
        self.tells(desk, "here", "0 out 5 tape log roll 0")

    def test_more_moves_than_five_hundred(self):
        desk = opened()
        desk.say("set loop")
        for turn in range(5):
            self.tells(desk, "on 500", "500")
        self.tells(desk, "here", "1 in asks tape log s2499 roll 0")
        for turn in range(5):
            self.tells(desk, "back 500", "500")
        self.tells(desk, "back 500", "0")
        self.tells(desk, "here", "0 in asks tape log roll 0")
        number, stops, slips = walked(laid(read(f"inputs n tell ( call {FIB} n )")), (5,), 5000)
        desk.say(f"keep fib inputs n tell ( call {FIB} n )")
        desk.say("set fib 5")
        gone, told = 0, "500"
        while told == "500":
            told = desk.say("on 500")
            gone += int(told)
        self.assertEqual(gone, len(stops) - 1)
        self.tells(desk, "here", f"0 out {number} tape log roll {len(stops[-1][5])}")

    def here_text(self, stop):
        wire, way, value, tape, log, roll = stop
        def row(entries):
            return "".join(" on" if e[0] == "on" else f" {e[0][0]}{e[1]}" for e in entries)

        return f"{wire} {way} {'asks' if value is None else value} tape{row(tape)} log{row(log)} roll {len(roll)}"

    def test_in_many_orders(self):
        """Beside on and back, one by one."""
        for program, web, values, number, stops, slips in ended()[::25]:
            desk = Desk()
            desk.say(f"keep p {written(program)}")
            desk.say("set p" + "".join(f" {value}" for value in values))
            stop, there = DOOR, ()
            for word, k in (("on", 5), ("back", 2), ("on", 1), ("on", 40), ("back", 0), ("back", 17), ("on", 3),
                            ("back", 500), ("on", 500), ("back", 1), ("on", 2)):
                gone = 0
                try:
                    while gone < k:
                        stop, there = (on if word == "on" else back)(web, values, stop, there)
                        gone += 1
                except NoStep:
                    pass
                self.tells(desk, f"{word} {k}", str(gone))
                self.tells(desk, "here", self.here_text(stop))

    def test_each_sort_of_entry(self):
        desk = opened()
        desk.say(f"keep p inputs n tell ( call ( call {TWICE} {INC} ) n )")
        desk.say("set p 4")
        seen = set()
        while desk.say("on 1") == "1":
            seen |= {word.rstrip("0123456789") for word in desk.say("here").split(" ")}
        self.assertEqual(seen, {"", "in", "out", "asks", "tape", "log", "roll", "on", "s", "n"})

    def test_texts_of_entries(self):
        """At a desk no entry is a far one, but it has a text."""
        for entry, text in ((("on",), "on"), (("slip", 0), "s0"), (("far", 12), "f12"), (("num", 1000), "n1000")):
            self.assertEqual(entry_text(entry), text)

    def test_no_messenger(self):
        for row in ("on 1", "back 0", "here", "on 500"):
            desk = opened()
            self.refused(desk, row, NoMessenger)
            desk.say("set seven")
            desk.say(row)
        desk = opened()
        for row, due in (("set nothing", Unknown), ("set double", NoRow), ("set inc", NoRow)):
            self.refused(desk, row, due)
            self.refused(desk, "here", NoMessenger)


# Rows that are none, whatever is kept.
NO_ROWS = (
    "", " ", "  ", "keep", "keep ", "keep double", "keep  inputs tell 7", "keep Double inputs tell 7",
    "keep tell inputs tell 7", "keep toolongaa inputs tell 7", "keep d1 inputs tell 7", " keep d inputs tell 7",
    "Keep d inputs tell 7", "kept d inputs tell 7", "keeps d inputs tell 7", "keep\td inputs tell 7",
    "run", "run ", "run  double 1", "run double  1", "run double 1 ", " run double 1", "run double 01", "run double 00",
    "run double -1", "run double +1", "run double 1.0", "run double 1000000000000000000", "run double \u0661",
    "run double \u00b2", "run double 1_0", "run double one", "run Double 1", "run if 1", "run 5", "run double\n1",
    "RUN double 1", "runs double 1", "walk", "walk  seven", "walk seven ", "leap", "leap seven x", "leap seven 1x",
    "stands", "stands ", "stands double 1", "stands double double", "stands double ", "stands Double", "stand double",
    "link", "link inc", "link inc ", "link inc 7", "link inc Seven", "link 5 seven", "link inc seven seven",
    "link inc  seven", "link inc seven ", "link inc seven 07", "set", "set ", "set 5", "set seven ", "sets seven",
    "on", "on ", "on 501", "on 1000", "on 00", "on 01", "on -1", "on x", "on 1 1", "on 1 ", "on  1", "on \u0661",
    "on 999999999999999999", "on 1000000000000000000", "back", "back 501", "back 05", "back 1 2", "back ", "back one",
    "here ", "here 1", " here", "here here", "Here", "herein", "asks", "tell", "inputs tell 7", "7", "double",
    "here\n", "on 1\n", "run seven\n",
)


class Refused(AtDesk):
    def test_what_is_no_row(self):
        for row in NO_ROWS:
            desk = opened()
            self.refused(desk, row, NoRow)
            self.refused(desk, "here", NoMessenger)
            desk.say("set double 3")
            desk.say("on 4")
            self.refused(desk, row, NoRow)
            self.tells(desk, "here", "1 out asks tape s0 log roll 0")
            self.tells(desk, "walk double 21", "42 in 17")

    def test_no_row_ahead_of_all_else(self):
        """Rows that are none, with nothing kept and no messenger."""
        for row in NO_ROWS:
            self.refused(Desk(), row, NoRow)

    def test_names_that_are_words_of_rows(self):
        desk = Desk()
        self.refused(desk, "run run", Unknown, name="run")
        desk.say("keep run inputs tell 6")
        self.tells(desk, "run run", "6 in 0")

    def test_unknown(self):
        desk = opened()
        for word in ("run", "walk", "leap", "set"):
            for behind in ("", " 1", " 1 2 3 4 5 6"):
                self.refused(desk, f"{word} nothing{behind}", Unknown, name="nothing")
        self.refused(desk, "stands nothing", Unknown, name="nothing")
        self.refused(desk, "link nothing seven", Unknown, name="nothing")
        self.refused(desk, "link seven nothing", Unknown, name="nothing")
        self.refused(desk, "link nothing neither", Unknown, name="nothing")
        self.refused(desk, "link nothing neither 4 5", Unknown, name="nothing")
        # Ahead of what the kinds and the counts would be refused for.
        self.refused(desk, "link double nothing 1 2 3", Unknown, name="nothing")

    def test_keep(self):
        desk = opened()
        for text, due, fields in (
            ("", NoText, {"at": 0}), (" inputs tell 1", NoText, {"at": 0}), ("inputs  tell 1", NoText, {"at": 1}),
            ("inputs tell 1 ", NoText, {"at": 3}), ("inputs tell", NoText, {"at": 2}), ("tell 1", NoText, {"at": 0}),
            ("inputs tell 01", NoText, {"at": 2}), ("inputs tell ( + 1 )", NoText, {"at": 5}),
            ("inputs x x tell 1", Twice, {"name": "x"}), ("inputs x x tell y", Twice, {"name": "x"}),
            ("inputs x x tell ( call 1 2 )", Twice, {"name": "x"}), ("inputs x x tell (", NoText, {"at": 5}),
            ("inputs tell ( + 1 y )", NoName, {"at": 2}), ("inputs tell ( + ( call 1 2 ) y )", NoKind, {"at": 1}),
            ("inputs tell ( + y ( call 1 2 ) )", NoName, {"at": 1}), ("inputs tell ( call 1 2 )", NoKind, {"at": 0}),
        ):
            self.refused(desk, f"keep double {text}", due, **fields)
            self.tells(desk, "run double 21", "42 in 2")
            # A name that is none is due first.
            self.refused(desk, f"keep Double {text}", NoRow)

    def test_values_too_few_and_too_many(self):
        desk = opened()
        for word in ("run", "walk", "leap", "set"):
            for behind in ("double", "double 1 2", "seven 1", "less 1", "less 1 2 3", "four", "four 1 2 3",
                           "four 1 2 3 4 5"):
                self.refused(desk, f"{word} {behind}", NoRow)
        for row in ("link inc seven 1", "link asks incn", "link asks incn 1 2"):
            self.refused(desk, row, NoRow)
        # Ahead of what the functions would refuse.
        self.refused(desk, "walk loop 1", NoRow)
        self.refused(desk, "run grow 1", NoRow)

    def test_other_kinds_than_num(self):
        desk = opened()
        for word in ("run", "walk", "leap", "stands", "set"):
            self.refused(desk, f"{word} inc", NoRow)
            self.refused(desk, f"{word} twice", NoRow)
        self.refused(desk, "run incn 1", NoRow)
        self.refused(desk, "stands incn", NoRow)
        self.tells(desk, "stands four", str(len(machine_of(laid(read(KEPT[3][1])), 100))))

    def test_link_of_two_that_do_not_fit(self):
        desk = opened()
        for row in ("link seven seven", "link seven inc", "link inc inc", "link inc twice", "link twice inc",
                    "link incn seven", "link incn seven 1", "link inc same", "link inc same 1", "link asks inc",
                    "link asks inc 1", "link asks same 1", "link incn incn 1", "link asks asks 1", "link inc loop 1"):
            self.refused(desk, row, NoRow)
        self.tells(desk, "link asks incn 1", "2 by 5")
        self.refused(desk, "link inc loop", TooLong, most=500)

    def test_what_is_refused_changes_nothing(self):
        desk = opened()
        desk.say("set double 21")
        desk.say("on 6")
        good = (("here", "5 out 21 tape log s0 roll 0"), ("run double 21", "42 in 2"), ("stands double", "18"),
                ("link inc seven", "8 by 3"), ("leap double 21", "42 in 15"))
        for row in ("set nothing", "set double", "set double 1 2", "set inc", "on 501", "back", "here 1", "walk loop",
                    "stands loop", "run grow", "link inc loop", "keep double", "keep double x",
                    "keep inc inputs tell x",
                    "keep seven inputs x x tell x", "keep loop inputs tell ( call 1 1 )", "nothing", "set nothing 5",
                    "set loop 5"):
            self.assertRaises((NoRow, Unknown, TooLong, TooMany, NoText, NoName, NoKind, Twice), desk.say, row)
            for asked, due in good:
                self.tells(desk, asked, due)

    def test_two_desks_told_by_turns(self):
        one, other = Desk(), Desk()
        one.say("keep p inputs tell 5")
        self.refused(other, "run p", Unknown, name="p")
        other.say("keep p inputs tell ( + 1 1 )")
        one.say("set p")
        self.refused(other, "here", NoMessenger)
        other.say("set p")
        self.tells(other, "on 500", "5")
        self.tells(one, "here", "0 in asks tape log roll 0")
        self.tells(one, "on 500", "1")
        self.tells(one, "here", "0 out 5 tape log roll 0")
        self.tells(other, "here", "0 out 2 tape log roll 1")
        self.tells(one, "run p", "5 in 0")
        self.tells(other, "run p", "2 in 1")

    def test_say_is_the_desks_own(self):
        self.assertIn("say", vars(Desk))


if __name__ == "__main__":
    unittest.main()
