"""Points [19] and [20]: texts of scripts and of deeds."""

import random
import unittest
from itertools import product

from tests.test_model import some_deed
from tests.test_play_errors import GOOD, KINDS
from tests.values import ODD
from yearturned.errors import NoDeed, NoStep, NoText
from yearturned.scripts import STEPS, Script
from yearturned.texts import deeds_text, read_deeds, read_script, script_text

STEP_TEXTS = [
    "make all", "make standing", "start new", "start all", "start free", "label new", "label all", "label free",
    "tie new", "tie all", "tie free", "drop",
]
PAIRS = list(zip([
    ("make", "all"), ("make", "standing"), ("start", "new"), ("start", "all"), ("start", "free"), ("label", "new"),
    ("label", "all"), ("label", "free"), ("tie", "new"), ("tie", "all"), ("tie", "free"), ("drop",),
], STEP_TEXTS))

DEED_TEXTS = [
    (("add", 70, 5), "add 70 5"), (("add", 0, 0), "add 0 0"), (("add", 0, -7), "add 0 -7"),
    (("add", 10 ** 30 - 1, 10 ** 12), "add 999999999999999999999999999999 1000000000000"),
    (("add", 10 ** 29, -10 ** 12), "add 100000000000000000000000000000 -1000000000000"),
    (("label", 1, 0), "label 1 0"), (("label", 10 ** 9, 10 ** 30 - 1), "label 1000000000 " + "9" * 30),
    (("moves", 1, -1), "moves 1 -1"), (("moves", 20, 0), "moves 20 0"), (("moves", 3, 10 ** 12), "moves 3 1" + "0" * 12),
    (("tie", 1, 2), "tie 1 2"), (("tie", 7, 7), "tie 7 7"), (("tie", 10, None), "tie 10 none"),
    (("tie", 10 ** 9, 10 ** 9), "tie 1000000000 1000000000"), (("end", 1), "end 1"), (("end", 10 ** 9), "end 1000000000"),
    (("own", 0), "own 0"), (("own", 10 ** 30 - 1), "own " + "9" * 30),
    (("write label", 1, 7), "write label 1 7"), (("write label", 10 ** 9, 0), "write label 1000000000 0"),
    (("write moves", 2, -30), "write moves 2 -30"), (("write moves", 2, 30), "write moves 2 30"),
    (("write tie", 3, 1), "write tie 3 1"), (("write tie", 3, None), "write tie 3 none"), (("run",), "run"),
]

NO_LINES = [
    "", " ", "nothing", "none", "walk", "Run", "RUN", "run ", " run", "run run", "run 1", "run none", "run\t", "r", "ru",
    "add", "add ", "add 1", "add 1 ", "add  1 1", "add 1  1", " add 1 1", "add 1 1 ", "add 1 1 1", "add\t1 1",
    "add 1,1", "add, 1, 1", "add1 1", "add 1 none", "add none 1", "Add 1 1", "adds 1 1", "add a 1", "add 1 b",
    "add -1 1", "add -0 1", "add 1 -0", "add 01 1", "add 1 01", "add 1 -01", "add 00 1", "add 1 00", "add +1 1",
    "add 1 +1", "add 1 - 1", "add 1 --1", "add 1 -", "add - 1", "add 1 1-", "add 1 1.0", "add 1 1e3", "add 1 0x1",
    "add 1 1_0", "add 1_0 1", "add 1 \"1\"", "add 1 (1)", "add True 1", "add 1 None",
    "add 1" + "0" * 30 + " 1", "add " + "9" * 90 + " 1", "add 1 1000000000001", "add 1 -1000000000001",
    "add 1 " + "9" * 90, "add 1 -" + "9" * 90, "add " + "0" * 90 + " 1",
    "label", "label 1", "label 0 1", "label -1 1", "label 1 -1", "label 1000000001 1", "label 1 none", "label none 1",
    "label 01 1", "label 1 01", "label +1 1", "label 1 1" + "0" * 30, "label 1 1 1", "label new", "label all",
    "moves 1", "moves 0 1", "moves 1000000001 1", "moves 1 1000000000001", "moves 1 none", "moves 1 -0", "move 1 1",
    "tie", "tie 1", "tie 0 1", "tie 1 0", "tie 1 -1", "tie 1 1000000001", "tie 1000000001 1", "tie none 1",
    "tie none none", "tie none", "tie 1 None", "tie 1 NONE", "tie 1 nothing", "tie 1 01", "tie 1 +2", "tie 1 x",
    "tie 1 ", "tie 1 none ", "tie 1  none", "tie 1 none none", "tie 1 1 none",
    "end", "end 0", "end -1", "end 1000000001", "end none", "end 1 1", "end 01", "end +1", "ends 1", "end x",
    "own", "own -1", "own 1" + "0" * 30, "own none", "own 1 1", "own 00", "own -0", "own x",
    "write", "write ", "write label", "write label 1", "write  label 1 1", "write label  1 1", "write label 0 1",
    "write label 1 -1", "write label 1 none", "writelabel 1 1", "write_label 1 1", "write\tlabel 1 1", "Write label 1 1",
    "write label 1 01", "write label 1 1 1", "write moves 1", "write moves 1 -0", "write moves 1000000001 1",
    "write tie 1", "write tie 1 0", "write tie none 1", "write tie 1 None", "write end 1", "write own 1", "write add 1 1",
    "write run", "write write label 1 1", "write 1 1", "write make all", "make all", "drop",
    "add 1 1,", "run,", "run, run", "run;", "add 1 1\t", "tie 1 1.", "end 1\r",
]


class Case(unittest.TestCase):
    def assert_text(self, part, call, text):
        with self.assertRaises(NoText) as caught:
            call(text)
        self.assertIs(type(caught.exception), NoText)
        self.assertEqual(caught.exception.part, part, text)
        self.assertIs(type(caught.exception.part), int)


class Scripts(Case):
    def test_each_step(self):
        for step, text in PAIRS:
            self.assertEqual(script_text(Script((step,))), text)
            self.assertEqual(read_script(text), Script((step,)))

    def test_nothing(self):
        self.assertEqual(script_text(Script(())), "nothing")
        self.assertEqual(read_script("nothing"), Script(()))

    def test_many(self):
        self.assertEqual(script_text(Script(STEPS)), ", ".join(STEP_TEXTS))
        text = ("make standing, start all, label free, tie free, drop")
        steps = (("make", "standing"), ("start", "all"), ("label", "free"), ("tie", "free"), ("drop",))
        self.assertEqual(script_text(Script(steps)), text)
        self.assertEqual(read_script(text), Script(steps))
        self.assertEqual(read_script("drop, drop"), Script((("drop",), ("drop",))))

    def test_there_and_back(self):
        source = random.Random(41)
        for count in range(13):
            for _ in range(30):
                pairs = source.choices(PAIRS, k=count)
                script = Script(tuple(step for step, _ in pairs))
                text = ", ".join(text for _, text in pairs) or "nothing"
                self.assertEqual(script_text(script), text)
                self.assertEqual(read_script(text), script)
                self.assertIs(type(read_script(text)), Script)
                self.assertIs(type(script_text(script)), str)

    def test_no_step(self):
        words = ["", " ", "make", "all", "drop all", "drop ", " drop", "Drop", "make  all", "make all ", " make all",
                 "make\tall", "make\nall", "make new", "make free", "start", "start standing", "label", "tie", "tie none",
                 "nothing", "none", "run", "make all standing", "makeall", "make_all", "MAKE ALL", "drop.", "drop\n",
                 "make all drop", "start  new", "start New", "('drop',)", "label 1 1", "end 1"]
        for word in words:
            if word != "nothing":
                self.assert_text(0, read_script, word)
                self.assert_text(0, read_script, word + ", drop")
            for count in range(1, 13):
                ahead = ", ".join(STEP_TEXTS[:count])
                self.assert_text(count, read_script, ahead + ", " + word)
                self.assert_text(count, read_script, ahead + ", " + word + ", drop, walk")

    def test_commas_and_spaces(self):
        for text, part in [
            ("drop,", 0), ("drop, ", 1), (", drop", 0), (",drop", 0), ("drop,drop", 0), ("drop,  drop", 1),
            ("drop ,drop", 0), ("drop , drop", 0), ("drop, drop,", 1), ("drop, drop, ", 2), (",", 0), (", ", 0),
            (", , ", 0), ("drop, , drop", 1), ("drop,, drop", 0), ("drop drop", 0), ("drop,\tdrop", 0),
            ("drop,\ndrop", 0), ("drop\n", 0), ("\ndrop", 0), ("nothing, drop", 0), ("drop, nothing", 1),
            ("nothing, nothing", 0), ("nothing ", 0), (" nothing", 0), ("Nothing", 0), ("nothing,", 0), ("", 0), (" ", 0),
        ]:
            self.assert_text(part, read_script, text)

    def test_more_than_twelve(self):
        self.assertEqual(len(read_script(", ".join(["drop"] * 12))), 12)
        for count in (13, 14, 100, 500):
            with self.assertRaises(NoStep) as caught:
                read_script(", ".join(["drop"] * count))
            self.assertIs(type(caught.exception), NoStep)
            self.assertEqual(caught.exception.index, 12)
            self.assert_text(count, read_script, ", ".join(["drop"] * count + ["walk"]))
            self.assert_text(count, read_script, ", ".join(["drop"] * count) + ", ")
        self.assert_text(13, read_script, ", ".join(["drop"] * 13 + ["walk"] * 13))

    def test_no_string(self):
        for wrong in [None, True, 0, b"drop", ["drop"], ("drop",), (("drop",),), {}, *ODD]:
            if not isinstance(wrong, str):
                self.assert_text(0, read_script, wrong)

    def test_by_name(self):
        self.assertEqual(read_script(text="drop"), Script((("drop",),)))

    def test_the_script_stays(self):
        script = Script(STEPS)
        script_text(script)
        self.assertEqual(script.steps(), STEPS)


class Deeds(Case):
    def test_each_deed(self):
        for deed, text in DEED_TEXTS:
            self.assertEqual(deeds_text([deed]), text)
            answer = read_deeds(text)
            self.assertEqual(answer, [deed])
            self.assertEqual([type(answer), type(answer[0])], [list, tuple])
            self.assertEqual([type(field) for field in answer[0]], [type(field) for field in deed])

    def test_none(self):
        self.assertEqual(deeds_text([]), "")
        self.assertEqual(read_deeds(""), [])
        self.assertIsNot(read_deeds(""), read_deeds(""))

    def test_many(self):
        deeds = [deed for deed, _ in DEED_TEXTS]
        text = "\n".join(text for _, text in DEED_TEXTS)
        self.assertEqual(deeds_text(deeds), text)
        self.assertEqual(read_deeds(text), deeds)
        self.assertEqual(deeds_text([("add", 1, 2), ("run",)]), "add 1 2\nrun")
        self.assertEqual(read_deeds("run\nrun\nend 1"), [("run",), ("run",), ("end", 1)])

    def test_there_and_back(self):
        source = random.Random(42)
        for count in range(0, 201, 4):
            deeds = [some_deed(source) for _ in range(count)]
            self.assertEqual(read_deeds(deeds_text(deeds)), deeds)
            self.assertEqual(deeds_text(deeds).count("\n"), max(0, count - 1))

    def test_all_small_integers(self):
        for number in range(-120, 121):
            self.assertEqual(deeds_text([("moves", 1, number)]), "moves 1 " + format(number, "d"))
            self.assertEqual(read_deeds("moves 1 " + format(number, "d")), [("moves", 1, number)])

    def test_a_long_text_is_returned(self):
        deeds = [("write label", 10 ** 9, 10 ** 30 - 1)] * 200
        self.assertEqual(deeds_text(deeds), "\n".join(["write label 1000000000 " + "9" * 30] * 200))

    def test_whatever_lines_there_are(self):
        self.assertEqual(read_deeds("end 7\nwrite tie 9 8"), [("end", 7), ("write tie", 9, 8)])
        self.assertEqual(deeds_text([("end", 7), ("write tie", 9, 8)]), "end 7\nwrite tie 9 8")

    def test_no_text(self):
        for line in NO_LINES:
            if line != "":
                self.assert_text(0, read_deeds, line)
            self.assert_text(0, read_deeds, line + "\nrun")
            self.assert_text(1, read_deeds, "run\n" + line)
            self.assert_text(2, read_deeds, "add 1 1\nend 1\n" + line + "\nrun\nwalk")

    def test_all_pairs_and_triples_of_words(self):
        texts = {text for _, text in DEED_TEXTS}
        words = ["add", "label", "tie", "end", "own", "write", "run", "none", "1", "7", "0", "-7", ""]
        for count in (1, 2, 3):
            for line in map(" ".join, product(words, repeat=count)):
                parts = line.split(" ")
                good = (
                    parts == ["run"] or line in texts
                    or parts[0] == "add" and count == 3 and parts[1] in ("0", "1", "7")
                    and parts[2] in ("0", "1", "7", "-7")
                    or parts[0] == "label" and count == 3 and parts[1] in ("1", "7") and parts[2] in ("0", "1", "7")
                    or parts[0] == "tie" and count == 3 and parts[1] in ("1", "7") and parts[2] in ("none", "1", "7")
                    or parts[0] == "end" and count == 2 and parts[1] in ("1", "7")
                    or parts[0] == "own" and count == 2 and parts[1] in ("0", "1", "7")
                )
                if good:
                    self.assertEqual(deeds_text(read_deeds(line)), line)
                elif line != "":
                    self.assert_text(0, read_deeds, line)

    def test_newlines(self):
        for text, part in [("run\n", 1), ("\nrun", 0), ("\n", 0), ("\n\n", 0), ("run\n\nrun", 1), ("run\nrun\n", 2),
                           ("run\n\n", 1), ("run\r\nrun", 0), ("run\n run", 1), ("run \nrun", 0), ("run, run", 0)]:
            self.assert_text(part, read_deeds, text)

    def test_no_string(self):
        for wrong in [None, True, 0, b"run", ["run"], ("run",), [("run",)], {}, *ODD]:
            if not isinstance(wrong, str):
                self.assert_text(0, read_deeds, wrong)

    def test_no_deed(self):
        for wrong in [(), tuple(GOOD), "run", "", None, True, {}, iter(GOOD), *ODD]:
            if not isinstance(wrong, list):
                self.assert_index(0, wrong)
        for wrong in [*ODD, "run", ["run"], ("walk",), ("add", 1), ("end", 0), ("tie", None, 1), ("add", True, 1)]:
            for count in range(4):
                self.assert_index(count, GOOD[:count] + [wrong])
                self.assert_index(count, GOOD[:count] + [wrong, *GOOD, None])

    def test_no_deed_at_each_place(self):
        for deed, places in KINDS:
            for at, wrongs in enumerate(places, 1):
                for wrong in wrongs:
                    if not (type(wrong) is int and wrong == deed[at]):
                        self.assert_index(1, [("run",), (*deed[:at], wrong, *deed[at + 1:])])

    def assert_index(self, index, deeds):
        with self.assertRaises(NoDeed) as caught:
            deeds_text(deeds)
        self.assertIs(type(caught.exception), NoDeed)
        self.assertEqual(caught.exception.index, index)

    def test_the_list_stays(self):
        deeds = list(GOOD)
        deeds_text(deeds)
        self.assertEqual(deeds, GOOD)
        text = deeds_text(deeds)
        one, other = read_deeds(text), read_deeds(text)
        self.assertIsNot(one, other)
        one.clear()
        self.assertEqual(read_deeds(text), other)

    def test_by_name(self):
        self.assertEqual(deeds_text(deeds=[("run",)]), "run")
        self.assertEqual(read_deeds(text="run"), [("run",)])


if __name__ == "__main__":
    unittest.main()
