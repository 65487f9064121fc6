"""Point [9], and [10] "errors as of play": NoDeed and NoLine."""

import unittest

from tests.values import ODD
from yearturned.errors import NoDeed, NoLine
from yearturned.plays import faults, play
from yearturned.scripts import Script

RUN = ("run",)
NOTHING = Script(())
ALL = Script((("make", "all"),))
STANDING = Script((("make", "standing"), ("drop",)))

NO_NUMBERS = [0, -1, 10 ** 9 + 1, 10 ** 30, True, False, 1.0, "1", b"1", (1,), [1], {}, *ODD]
NO_LABELS = [-1, 10 ** 30, 10 ** 31, True, False, None, 0.0, "0", (0,), [0], *ODD]
NO_AMOUNTS = [10 ** 12 + 1, -10 ** 12 - 1, 10 ** 13, True, False, None, 0.0, "0", (0,), [0], *ODD]

# For each word: a good deed, and what is wrong at each place behind the word.
KINDS = [
    (("add", 1, 1), (NO_LABELS, NO_AMOUNTS)),
    (("label", 1, 1), (NO_NUMBERS, NO_LABELS)),
    (("moves", 1, 1), (NO_NUMBERS, NO_AMOUNTS)),
    (("tie", 1, 1), (NO_NUMBERS, [value for value in NO_NUMBERS if value is not None])),
    (("end", 1), (NO_NUMBERS,)),
    (("own", 1), (NO_LABELS,)),
    (("write label", 1, 1), (NO_NUMBERS, NO_LABELS)),
    (("write moves", 1, 1), (NO_NUMBERS, NO_AMOUNTS)),
    (("write tie", 1, 1), (NO_NUMBERS, [value for value in NO_NUMBERS if value is not None])),
    (RUN, ()),
]
GOOD = [deed for deed, _ in KINDS]
# All of GOOD can be done behind these.
AHEAD = [("add", 1, 1), ("own", 1)]


class Case(unittest.TestCase):
    def assert_error(self, error, index, deeds, script=NOTHING):
        for call in (play, faults):
            with self.assertRaises(error) as caught:
                call(script, deeds)
            self.assertIs(type(caught.exception), error)
            self.assertEqual(caught.exception.index, index)
            self.assertIs(type(caught.exception.index), int)

    def assert_plays(self, deeds, script=NOTHING):
        for call in (play, faults):
            call(script, deeds)


class NoDeeds(Case):
    def test_good_ones(self):
        for deed in GOOD:
            self.assert_plays([*AHEAD, deed])
        self.assert_plays([*AHEAD, *GOOD, *GOOD])

    def test_no_list(self):
        for wrong in [(), tuple(GOOD), (RUN,), "run", "", None, 0, 1, True, {}, {0: RUN}, iter([RUN]), RUN, *ODD]:
            if not isinstance(wrong, list):
                self.assert_error(NoDeed, 0, wrong)

    def test_any_value(self):
        for wrong in [*ODD, "run", "add", 1, ("walk",), ("walk", 1), ("Run",), ("run ",), (b"run",), (1, 2),
                      ("write", 1, 1), ("write end", 1), ("write ", 1, 1), ("write own", 1), ("write  tie", 1, 1),
                      ("label", "new"), ("make", "all"), ("drop",), ("typed label", 1, 1), ("None",), (RUN,)]:
            for count in range(4):
                self.assert_error(NoDeed, count, AHEAD[:1] * count + [wrong])
                self.assert_error(NoDeed, count, AHEAD[:1] * count + [wrong, *AHEAD])

    def test_lists_in_the_place_of_tuples(self):
        for deed in GOOD:
            self.assert_error(NoDeed, 2, [*AHEAD, list(deed)])

    def test_too_few_and_too_many(self):
        for deed in GOOD:
            self.assert_error(NoDeed, 2, [*AHEAD, deed[:-1]])
            for more in (None, 1, "", (), deed[-1]):
                self.assert_error(NoDeed, 2, [*AHEAD, (*deed, more)])
            self.assert_error(NoDeed, 2, [*AHEAD, (*deed, *range(1, 290))])

    def test_each_place(self):
        for deed, places in KINDS:
            for at, wrongs in enumerate(places, 1):
                for wrong in wrongs:
                    if not (isinstance(wrong, int) and not isinstance(wrong, bool) and wrong == deed[at]):
                        self.assert_error(NoDeed, 2, [*AHEAD, (*deed[:at], wrong, *deed[at + 1:])])

    def test_truths(self):
        for deed, places in KINDS:
            for at in range(1, len(places) + 1):
                for truth in (True, False):
                    self.assert_error(NoDeed, 2, [*AHEAD, (*deed[:at], truth, *deed[at + 1:])])

    def test_limits(self):
        for deed in [("add", 10 ** 30 - 1, 10 ** 12), ("add", 0, -10 ** 12), ("label", 1, 10 ** 30 - 1),
                     ("label", 1, 0), ("moves", 1, 10 ** 12), ("moves", 1, -10 ** 12), ("own", 0),
                     ("own", 10 ** 30 - 1), ("write label", 1, 0), ("write label", 1, 10 ** 30 - 1),
                     ("write moves", 1, 10 ** 12), ("write moves", 1, -10 ** 12), ("tie", 1, None),
                     ("write tie", 1, None)]:
            self.assert_plays([*AHEAD, deed])
        for far in (2, 10 ** 9):
            for deed in [("label", far, 1), ("moves", far, 1), ("tie", far, None), ("tie", 1, far), ("end", far),
                         ("write label", far, 1), ("write moves", far, 1), ("write tie", far, None),
                         ("write tie", 1, far)]:
                self.assert_error(NoLine, 2, [*AHEAD, deed])

    def test_a_number_is_not_none(self):
        for word in ("label", "moves", "tie", "write label", "write moves", "write tie"):
            self.assert_error(NoDeed, 2, [*AHEAD, (word, None, 1)])
        self.assert_error(NoDeed, 2, [*AHEAD, ("tie", None, None)])
        self.assert_error(NoDeed, 2, [*AHEAD, ("end", None)])


class NoLines(Case):
    def test_not_there_yet(self):
        for deed in [("label", 1, 1), ("moves", 1, 1), ("tie", 1, 1), ("tie", 1, None), ("end", 1),
                     ("write label", 1, 1), ("write moves", 1, 1), ("write tie", 1, 1), ("write tie", 1, None)]:
            self.assert_error(NoLine, 0, [deed])
            self.assert_error(NoLine, 0, [deed, *AHEAD])
            self.assert_error(NoLine, 1, [RUN, deed, *AHEAD])
            self.assert_plays([*AHEAD, deed])

    def test_of_the_other_ledger(self):
        for deed in [("label", 1, 1), ("moves", 1, 1), ("tie", 1, 1), ("tie", 1, None), ("end", 1)]:
            self.assert_error(NoLine, 1, [("own", 1), deed])
            self.assert_plays([("add", 1, 1), deed])
        for deed in [("write label", 1, 1), ("write moves", 1, 1), ("write tie", 1, 1), ("write tie", 1, None)]:
            self.assert_error(NoLine, 1, [("add", 1, 1), deed])
            self.assert_error(NoLine, 2, [("add", 1, 1), RUN, deed])
            self.assert_plays([("own", 1), deed])
            self.assert_plays([("add", 1, 1), RUN, deed], ALL)

    def test_the_other_number(self):
        self.assert_error(NoLine, 3, [("add", 1, 1), ("own", 1), ("own", 1), ("tie", 1, 2)])
        self.assert_error(NoLine, 3, [("add", 1, 1), ("add", 1, 1), ("own", 1), ("write tie", 1, 2)])
        self.assert_error(NoLine, 3, [("add", 1, 1), ("own", 1), ("own", 1), ("tie", 2, 1)])
        self.assert_error(NoLine, 3, [("add", 1, 1), ("add", 1, 1), ("own", 1), ("write tie", 2, 1)])

    def test_gone(self):
        ahead = [("add", 1, 1), ("add", 2, 2), RUN, ("end", 1), RUN]
        for deed in [("write label", 1, 1), ("write moves", 1, 1), ("write tie", 1, None), ("write tie", 1, 2),
                     ("write tie", 2, 1), ("write tie", 1, 1), ("write tie", 3, 2)]:
            self.assert_error(NoLine, 5, [*ahead, deed], STANDING)
            self.assert_error(NoLine, 6, [*ahead, RUN, deed, ("own", 1)], STANDING)
        self.assert_plays([*ahead, ("write tie", 2, 2), ("own", 1), ("write tie", 2, 3)], STANDING)

    def test_ended_lines_are_there(self):
        self.assert_plays([("add", 1, 1), ("end", 1), ("label", 1, 1), ("moves", 1, 1), ("tie", 1, 1), ("end", 1)])

    def test_made_again_under_another_number(self):
        script = Script((("drop",), ("make", "all")))
        ahead = [("add", 1, 1), ("end", 1), RUN, RUN]
        self.assert_error(NoLine, 4, [*ahead, ("write label", 1, 1)], script)
        self.assert_plays([*ahead, ("write label", 2, 1)], script)

    def test_the_first(self):
        self.assert_error(NoLine, 1, [("add", 1, 1), ("end", 2), ("end", 3)])
        self.assert_error(NoLine, 2, [("add", 1, 1), ("end", 1), ("write tie", 1, 1), ("end", 3)])


class Both(Case):
    def test_no_deed_comes_first(self):
        self.assert_error(NoDeed, 2, [("end", 1), ("end", 7), None])
        self.assert_error(NoDeed, 1, [("end", 1), ("end", True)])
        self.assert_error(NoDeed, 3, [*AHEAD, ("tie", 5, 5), ["run"], None])
        self.assert_error(NoDeed, 0, [("end", 0), ("end", 1)])

    def test_nothing_is_changed(self):
        deeds = [*AHEAD, ("end", 9)]
        self.assert_error(NoLine, 2, deeds)
        self.assertEqual(deeds, [*AHEAD, ("end", 9)])
        deeds = [*AHEAD, None]
        self.assert_error(NoDeed, 2, deeds)
        self.assertEqual(deeds, [*AHEAD, None])
        self.assertEqual(play(NOTHING, AHEAD), ([(1, 1, 1, 0, None, True)], [(1, 1, 0, 0, None, None)]))


if __name__ == "__main__":
    unittest.main()
