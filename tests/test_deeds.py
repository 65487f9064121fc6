"""Points [6] and [7], and what play returns ([9]): deeds, by the script without steps and by short ones."""

import unittest

from yearturned.plays import play
from yearturned.scripts import Script

NOTHING = Script(())
MAKE = Script((("make", "all"),))


def old(deeds, script=NOTHING):
    return play(script, deeds)[0]


def new(deeds, script=NOTHING):
    return play(script, deeds)[1]


class OldLedger(unittest.TestCase):
    def test_at_the_beginning(self):
        self.assertEqual(play(NOTHING, []), ([], []))
        self.assertEqual(play(Script((("make", "all"), ("tie", "all"), ("drop",))), []), ([], []))

    def test_add(self):
        self.assertEqual(play(NOTHING, [("add", 70, 5)]), ([(1, 70, 5, 0, None, True)], []))

    def test_numbers_ascend(self):
        self.assertEqual(old([("add", 9, -1), ("add", 9, -1), ("end", 2), ("add", 7, 0)]),
                         [(1, 9, -1, 0, None, True), (2, 9, -1, 0, None, False), (3, 7, 0, 0, None, True)])

    def test_widest_label_and_amounts(self):
        deeds = [("add", 10 ** 30 - 1, 10 ** 12), ("add", 0, -10 ** 12), ("moves", 1, 10 ** 12),
                 ("moves", 2, -10 ** 12), ("run",)]
        self.assertEqual(play(MAKE, deeds),
                         ([(1, 10 ** 30 - 1, 10 ** 12, 10 ** 12, None, True),
                           (2, 0, -10 ** 12, -10 ** 12, None, True)],
                          [(1, 10 ** 30 - 1, 2 * 10 ** 12, 0, None, 1), (2, 0, -2 * 10 ** 12, 0, None, 2)]))

    def test_label(self):
        self.assertEqual(old([("add", 1, 5), ("add", 2, 6), ("label", 1, 10 ** 30 - 1), ("label", 2, 0)]),
                         [(1, 10 ** 30 - 1, 5, 0, None, True), (2, 0, 6, 0, None, True)])

    def test_moves_take_the_place_of_moves(self):
        self.assertEqual(old([("add", 1, 5), ("moves", 1, 3), ("moves", 1, -4)]), [(1, 1, 5, -4, None, True)])

    def test_tie(self):
        deeds = [("add", 1, 0), ("add", 2, 0), ("tie", 1, 2), ("tie", 2, 2)]
        self.assertEqual(old(deeds), [(1, 1, 0, 0, 2, True), (2, 2, 0, 0, 2, True)])
        self.assertEqual(old([*deeds, ("tie", 1, None)]), [(1, 1, 0, 0, None, True), (2, 2, 0, 0, 2, True)])

    def test_end_for_good(self):
        deeds = [("add", 1, 5), ("end", 1)]
        for more in ([], [("end", 1)], [("end", 1), ("end", 1)], [("run",)]):
            self.assertEqual(old(deeds + more), [(1, 1, 5, 0, None, False)])

    def test_ended_lines_change_on(self):
        deeds = [("add", 1, 5), ("add", 2, 6), ("end", 1), ("label", 1, 8), ("moves", 1, 3), ("tie", 1, 1),
                 ("tie", 2, 1)]
        self.assertEqual(old(deeds), [(1, 8, 5, 3, 1, False), (2, 2, 6, 0, 1, True)])


class NewLedger(unittest.TestCase):
    def test_own(self):
        self.assertEqual(play(NOTHING, [("own", 70), ("own", 0)]),
                         ([], [(1, 70, 0, 0, None, None), (2, 0, 0, 0, None, None)]))

    def test_write_own_lines(self):
        deeds = [("own", 70), ("own", 0), ("write label", 1, 10 ** 30 - 1), ("write moves", 2, -10 ** 12),
                 ("write tie", 1, 2), ("write tie", 2, 2)]
        self.assertEqual(new(deeds), [(1, 10 ** 30 - 1, 0, 0, 2, None), (2, 0, 0, -10 ** 12, 2, None)])
        self.assertEqual(new([*deeds, ("write tie", 1, None), ("write moves", 2, 7)]),
                         [(1, 10 ** 30 - 1, 0, 0, None, None), (2, 0, 0, 7, 2, None)])

    def test_write_made_lines(self):
        deeds = [("add", 70, 5), ("own", 1), ("run",), ("write label", 2, 9), ("write moves", 2, 3),
                 ("write tie", 2, 1)]
        self.assertEqual(new(deeds, MAKE), [(1, 1, 0, 0, None, None), (2, 9, 5, 3, 1, 1)])
        self.assertEqual(new([*deeds, ("write tie", 2, None)], MAKE), [(1, 1, 0, 0, None, None), (2, 9, 5, 3, None, 1)])

    def test_each_ledger_has_its_own_lines(self):
        deeds = [("add", 1, 5), ("own", 2), ("label", 1, 3), ("write label", 1, 4), ("moves", 1, 6),
                 ("write moves", 1, 7), ("tie", 1, 1), ("end", 1)]
        self.assertEqual(play(NOTHING, deeds), ([(1, 3, 5, 6, 1, False)], [(1, 4, 0, 7, None, None)]))

    def test_runs_by_the_script_without_steps(self):
        deeds = [("run",), ("add", 1, 5), ("run",), ("own", 2), ("end", 1), ("run",), ("run",)]
        self.assertEqual(play(NOTHING, deeds), ([(1, 1, 5, 0, None, False)], [(1, 2, 0, 0, None, None)]))


class Answers(unittest.TestCase):
    DEEDS = [("add", 70, 5), ("own", 1), ("run",), ("tie", 1, 1)]

    def test_kinds(self):
        answer = play(MAKE, self.DEEDS)
        self.assertIs(type(answer), tuple)
        self.assertEqual([type(rows) for rows in answer], [list, list])
        self.assertEqual({type(row) for rows in answer for row in rows}, {tuple})

    def test_new_lists_each_time(self):
        one, other = play(MAKE, self.DEEDS), play(MAKE, self.DEEDS)
        self.assertEqual(one, other)
        self.assertIsNot(one[0], other[0])
        self.assertIsNot(one[1], other[1])
        one[0].clear()
        one[1].append(None)
        self.assertEqual(play(MAKE, self.DEEDS), other)
        self.assertIsNot(play(NOTHING, [])[0], play(NOTHING, [])[0])
        empty = play(NOTHING, [])
        self.assertIsNot(empty[0], empty[1])

    def test_the_passed_list_stays(self):
        deeds = list(self.DEEDS)
        items = list(deeds)
        play(MAKE, deeds)
        self.assertEqual(len(deeds), len(items))
        for deed, item in zip(deeds, items):
            self.assertIs(deed, item)
        deeds.clear()
        self.assertEqual(play(MAKE, deeds), ([], []))

    def test_the_script_stays(self):
        script = Script((("make", "all"), ("drop",)))
        play(script, self.DEEDS)
        self.assertEqual(script.steps(), (("make", "all"), ("drop",)))

    def test_by_name(self):
        self.assertEqual(play(MAKE, deeds=self.DEEDS), play(MAKE, self.DEEDS))

    def test_two_hundred_deeds(self):
        deeds = [("add", 1, 0)] * 190 + [("run",)] * 10
        old_rows, new_rows = play(MAKE, deeds)
        self.assertEqual([row[0] for row in old_rows], list(range(1, 191)))
        self.assertEqual([(row[0], row[5]) for row in new_rows], [(at, at) for at in range(1, 191)])


if __name__ == "__main__":
    unittest.main()
