"""Point [8]: each step with each scope, alone and together."""

import unittest

from yearturned.plays import play
from yearturned.scripts import Script

RUN = ("run",)
DROP = ("drop",)
ALL = ("make", "all")
STANDING = ("make", "standing")


def new(steps, deeds):
    return play(Script(tuple(steps)), deeds)[1]


def column(steps, deeds, at):
    """One value of each new line, by its number."""
    return {row[0]: row[at] for row in new(steps, deeds)}


def starts(steps, deeds):
    return column(steps, deeds, 2)


def labels(steps, deeds):
    return column(steps, deeds, 1)


def ties(steps, deeds):
    return column(steps, deeds, 4)


def sources(steps, deeds):
    return column(steps, deeds, 5)


class Make(unittest.TestCase):
    DEEDS = [("add", 70, 5), ("add", 80, 6), ("moves", 2, -9), ("end", 2), ("add", 90, 7), ("tie", 1, 3)]

    def test_all(self):
        self.assertEqual(new([ALL], [*self.DEEDS, RUN]),
                         [(1, 70, 5, 0, None, 1), (2, 80, -3, 0, None, 2), (3, 90, 7, 0, None, 3)])

    def test_standing(self):
        self.assertEqual(new([STANDING], [*self.DEEDS, RUN]), [(1, 70, 5, 0, None, 1), (2, 90, 7, 0, None, 3)])

    def test_the_old_ledger_stays(self):
        for make in (ALL, STANDING):
            self.assertEqual(play(Script((make,)), [*self.DEEDS, RUN])[0], play(Script(()), self.DEEDS)[0])

    def test_only_where_there_is_none(self):
        deeds = [*self.DEEDS, RUN, ("label", 1, 1), ("moves", 1, 1), ("add", 60, 0), RUN]
        self.assertEqual(new([ALL, ALL], deeds), [(1, 70, 5, 0, None, 1), (2, 80, -3, 0, None, 2),
                                                  (3, 90, 7, 0, None, 3), (4, 60, 0, 0, None, 4)])
        self.assertEqual(new([STANDING, STANDING], deeds),
                         [(1, 70, 5, 0, None, 1), (2, 90, 7, 0, None, 3), (3, 60, 0, 0, None, 4)])

    def test_one_behind_the_other(self):
        self.assertEqual(sources([STANDING, ALL], [*self.DEEDS, RUN]), {1: 1, 2: 3, 3: 2})
        self.assertEqual(sources([ALL, STANDING], [*self.DEEDS, RUN]), {1: 1, 2: 2, 3: 3})

    def test_numbers_behind_own_lines(self):
        self.assertEqual(new([ALL], [("own", 1), ("add", 70, 5), RUN, ("own", 2), ("add", 80, 6), RUN]),
                         [(1, 1, 0, 0, None, None), (2, 70, 5, 0, None, 1), (3, 2, 0, 0, None, None),
                          (4, 80, 6, 0, None, 2)])

    def test_a_line_that_ended_later_keeps_its_made_line(self):
        for make in (ALL, STANDING):
            self.assertEqual(new([make], [("add", 70, 5), RUN, ("end", 1), RUN]), [(1, 70, 5, 0, None, 1)])


class Start(unittest.TestCase):
    DEEDS = [("add", 1, 5), ("own", 9), RUN, ("moves", 1, 3), ("add", 2, 6), ("write moves", 2, 50), RUN]

    def test_scopes(self):
        self.assertEqual(starts([ALL], self.DEEDS), {1: 0, 2: 5, 3: 6})
        self.assertEqual(starts([ALL, ("start", "new")], self.DEEDS), {1: 0, 2: 5, 3: 6})
        for scope in ("all", "free"):
            for steps in ([ALL, ("start", scope)], [("start", scope), ALL]):
                self.assertEqual(starts(steps, self.DEEDS), {1: 0, 2: 8, 3: 6})

    def test_free_whatever_is_typed(self):
        deeds = [("add", 1, 5), RUN, ("write label", 1, 1), ("write tie", 1, None), ("write moves", 1, 4),
                 ("moves", 1, -7), RUN]
        self.assertEqual(new([ALL, ("start", "free")], deeds), [(1, 1, -2, 4, None, 1)])

    def test_of_an_ended_line(self):
        deeds = [("add", 1, 5), RUN, ("end", 1), ("moves", 1, 3), RUN]
        self.assertEqual(starts([ALL, ("start", "all")], deeds), {1: 8})
        self.assertEqual(starts([ALL, ("start", "free")], deeds), {1: 8})

    def test_nothing_but_the_start(self):
        deeds = [("add", 1, 5), RUN, ("label", 1, 2), ("tie", 1, 1), ("moves", 1, 3), ("write moves", 1, 9), RUN]
        self.assertEqual(new([ALL, ("start", "all")], deeds), [(1, 1, 8, 9, None, 1)])


class Label(unittest.TestCase):
    DEEDS = [("add", 10, 0), ("add", 20, 0), ("own", 9), RUN, ("label", 1, 11), ("label", 2, 21), ("add", 30, 0)]

    def test_scopes(self):
        typed = [*self.DEEDS, ("write label", 3, 5), RUN]
        self.assertEqual(labels([ALL], typed), {1: 9, 2: 10, 3: 5, 4: 30})
        self.assertEqual(labels([ALL, ("label", "new")], typed), {1: 9, 2: 10, 3: 5, 4: 30})
        self.assertEqual(labels([ALL, ("label", "all")], typed), {1: 9, 2: 11, 3: 21, 4: 30})
        self.assertEqual(labels([ALL, ("label", "free")], typed), {1: 9, 2: 11, 3: 5, 4: 30})

    def test_typed_with_the_value_that_it_had(self):
        deeds = [*self.DEEDS, ("write label", 3, 20), RUN]
        self.assertEqual(labels([ALL, ("label", "free")], deeds), {1: 9, 2: 11, 3: 20, 4: 30})
        self.assertEqual(labels([ALL, ("label", "all")], deeds), {1: 9, 2: 11, 3: 21, 4: 30})

    def test_typed_tie_or_moves_leave_the_label_free(self):
        for deed in (("write tie", 3, 2), ("write tie", 3, None), ("write moves", 3, 1)):
            self.assertEqual(labels([ALL, ("label", "free")], [*self.DEEDS, deed, RUN]), {1: 9, 2: 11, 3: 21, 4: 30})

    def test_typed_stays_typed(self):
        deeds = [*self.DEEDS, ("write label", 3, 5), RUN, ("write moves", 3, 1), ("label", 2, 22), RUN]
        self.assertEqual(labels([ALL, ("label", "free")], deeds), {1: 9, 2: 11, 3: 5, 4: 30})

    def test_of_an_ended_line(self):
        self.assertEqual(labels([ALL, ("label", "all")], [*self.DEEDS, ("end", 1), RUN]), {1: 9, 2: 11, 3: 21, 4: 30})

    def test_nothing_but_the_label(self):
        deeds = [("add", 1, 5), RUN, ("label", 1, 2), ("tie", 1, 1), ("moves", 1, 3), ("write moves", 1, 9), RUN]
        self.assertEqual(new([ALL, ("label", "all")], deeds), [(1, 2, 5, 9, None, 1)])


class Tie(unittest.TestCase):
    # The made lines of 1, 2, 3 are 2, 3, 4; the line of 4 is made by the last run.
    DEEDS = [("own", 9), ("add", 1, 0), ("add", 2, 0), ("add", 3, 0), RUN, ("tie", 1, 2), ("tie", 2, 2),
             ("add", 4, 0), ("tie", 4, 1)]

    def test_scopes(self):
        typed = [*self.DEEDS, ("write tie", 3, 1), RUN]
        self.assertEqual(ties([ALL], typed), {1: None, 2: None, 3: 1, 4: None, 5: None})
        self.assertEqual(ties([ALL, ("tie", "new")], typed), {1: None, 2: None, 3: 1, 4: None, 5: 2})
        self.assertEqual(ties([ALL, ("tie", "all")], typed), {1: None, 2: 3, 3: 3, 4: None, 5: 2})
        self.assertEqual(ties([ALL, ("tie", "free")], typed), {1: None, 2: 3, 3: 1, 4: None, 5: 2})

    def test_typed_with_the_value_that_it_had(self):
        deeds = [*self.DEEDS, ("write tie", 3, None), RUN]
        self.assertEqual(ties([ALL, ("tie", "free")], deeds), {1: None, 2: 3, 3: None, 4: None, 5: 2})
        self.assertEqual(ties([ALL, ("tie", "all")], deeds), {1: None, 2: 3, 3: 3, 4: None, 5: 2})

    def test_typed_label_or_moves_leave_the_tie_free(self):
        for deed in (("write label", 3, 2), ("write moves", 3, 1)):
            self.assertEqual(ties([ALL, ("tie", "free")], [*self.DEEDS, deed, RUN]),
                             {1: None, 2: 3, 3: 3, 4: None, 5: 2})

    def test_own_ties_stay(self):
        deeds = [*self.DEEDS, ("write tie", 1, 1), RUN]
        self.assertEqual(ties([ALL, ("tie", "all")], deeds), {1: 1, 2: 3, 3: 3, 4: None, 5: 2})

    def test_no_tie_any_more(self):
        deeds = [("add", 1, 0), ("add", 2, 0), ("tie", 1, 2), RUN, ("tie", 1, None), RUN]
        steps = [ALL, ("tie", "new")]
        self.assertEqual(ties(steps, deeds), {1: 2, 2: None})
        self.assertEqual(ties([*steps, ("tie", "all")], deeds), {1: None, 2: None})
        self.assertEqual(ties([*steps, ("tie", "free")], deeds), {1: None, 2: None})

    def test_to_a_line_that_has_no_made_line(self):
        deeds = [("add", 1, 0), ("add", 2, 0), ("end", 2), ("tie", 1, 2), RUN]
        for scope in ("new", "all", "free"):
            self.assertEqual(ties([STANDING, ("tie", scope)], deeds), {1: None})

    def test_to_an_ended_line_with_a_made_line(self):
        deeds = [("add", 1, 0), ("add", 2, 0), ("end", 2), ("tie", 1, 2), RUN]
        for scope in ("new", "all", "free"):
            self.assertEqual(ties([ALL, ("tie", scope)], deeds), {1: 2, 2: None})

    def test_to_a_line_that_is_made_later_in_the_run(self):
        deeds = [("add", 1, 0), RUN, ("add", 2, 0), ("tie", 1, 2), RUN]
        self.assertEqual(ties([("tie", "all"), ALL], deeds), {1: None, 2: None})
        self.assertEqual(ties([("tie", "all"), ALL], [*deeds, RUN]), {1: 2, 2: None})
        self.assertEqual(ties([ALL, ("tie", "all")], deeds), {1: 2, 2: None})

    def test_ring_and_itself(self):
        deeds = [("own", 0), ("add", 1, 0), ("add", 2, 0), ("add", 3, 0), ("tie", 1, 3), ("tie", 3, 1), ("tie", 2, 2),
                 RUN]
        for scope in ("new", "all", "free"):
            self.assertEqual(ties([ALL, ("tie", scope)], deeds), {1: None, 2: 4, 3: 3, 4: 2})

    def test_nothing_but_the_tie(self):
        deeds = [("add", 1, 5), RUN, ("label", 1, 2), ("tie", 1, 1), ("moves", 1, 3), ("write moves", 1, 9), RUN]
        self.assertEqual(new([ALL, ("tie", "all")], deeds), [(1, 1, 5, 9, 1, 1)])


class Drop(unittest.TestCase):
    DEEDS = [("add", 1, 0), ("add", 2, 0), ("add", 3, 0), ("own", 9), RUN, ("write tie", 1, 2), ("write tie", 2, 3),
             ("write tie", 4, 3), ("write tie", 3, 3)]

    def test_ended_ones_alone(self):
        self.assertEqual(sources([ALL, DROP], [*self.DEEDS, RUN]), {1: None, 2: 1, 3: 2, 4: 3})
        self.assertEqual(sources([ALL, DROP], [*self.DEEDS, ("end", 2), RUN]), {1: None, 2: 1, 4: 3})
        self.assertEqual(sources([ALL, DROP], [*self.DEEDS, ("end", 1), ("end", 3), RUN]), {1: None, 3: 2})

    def test_ties_that_lead_to_them(self):
        self.assertEqual(ties([STANDING, DROP], [*self.DEEDS, RUN]), {1: 2, 2: 3, 3: 3, 4: 3})
        self.assertEqual(ties([STANDING, DROP], [*self.DEEDS, ("end", 2), RUN]), {1: 2, 2: None, 4: None})
        self.assertEqual(ties([STANDING, DROP], [*self.DEEDS, ("end", 1), RUN]), {1: None, 3: 3, 4: 3})

    def test_ties_of_steps_too(self):
        deeds = [("add", 1, 0), ("add", 2, 0), ("tie", 1, 2), RUN, ("end", 2), RUN]
        self.assertEqual(ties([STANDING, ("tie", "new"), DROP], deeds), {1: None})
        self.assertEqual(ties([DROP, STANDING, ("tie", "all")], deeds), {1: None})
        self.assertEqual(ties([STANDING, ("tie", "all"), DROP], deeds), {1: None})

    def test_a_tie_that_fell_is_still_typed(self):
        deeds = [*self.DEEDS, ("tie", 1, 3), ("end", 2), RUN, RUN]
        self.assertEqual(ties([STANDING, ("tie", "free"), DROP], deeds), {1: 2, 2: None, 4: None})
        self.assertEqual(ties([STANDING, ("tie", "all"), DROP], deeds), {1: 2, 2: 4, 4: None})

    def test_own_lines_are_not_dropped(self):
        self.assertEqual(new([DROP], [("own", 1), ("add", 1, 0), ("end", 1), RUN]), [(1, 1, 0, 0, None, None)])

    def test_made_again_with_numbers_that_go_on(self):
        deeds = [("add", 1, 5), ("end", 1), RUN, RUN]
        self.assertEqual(new([ALL, DROP], deeds), [])
        self.assertEqual(new([ALL, DROP], [*deeds, ("own", 7)]), [(3, 7, 0, 0, None, None)])
        self.assertEqual(sources([DROP, ALL], deeds), {2: 1})
        self.assertEqual(sources([ALL, DROP, ALL], deeds), {3: 1})
        self.assertEqual(sources([ALL, DROP, STANDING], [("add", 1, 0), *deeds, RUN]), {2: 2})

    def test_made_again_with_nothing_typed(self):
        deeds = [("add", 1, 5), RUN, ("write label", 1, 8), ("write tie", 1, 1), ("write moves", 1, 3), ("end", 1),
                 ("tie", 1, 1), ("moves", 1, 2), RUN, ("label", 1, 4), RUN]
        self.assertEqual(new([DROP, ALL], deeds[:-2]), [(2, 1, 7, 0, None, 1)])
        self.assertEqual(new([DROP, ALL, ("label", "free"), ("tie", "free")], deeds), [(3, 4, 7, 0, 3, 1)])
        kept = [*deeds[:5], ("label", 1, 4), ("tie", 1, None), RUN]
        self.assertEqual(new([DROP, ALL, ("label", "free"), ("tie", "free")], kept), [(1, 8, 5, 3, 1, 1)])

    def test_a_number_that_is_gone_does_not_come_again(self):
        deeds = [("add", 1, 0), RUN, ("end", 1), RUN, ("own", 3), ("add", 2, 0), RUN]
        self.assertEqual(sources([STANDING, DROP], deeds), {2: None, 3: 2})


class ScopeNew(unittest.TestCase):
    """What was made in an earlier run is not new any more; what was made twice in this one is."""

    def test_of_this_run_alone(self):
        deeds = [("add", 1, 0), RUN, ("label", 1, 2), ("moves", 1, 2), ("tie", 1, 1), RUN]
        self.assertEqual(new([ALL, ("start", "new"), ("label", "new"), ("tie", "new")], deeds), [(1, 1, 0, 0, None, 1)])

    def test_ahead_of_the_making(self):
        deeds = [("add", 1, 0), ("tie", 1, 1), RUN, RUN]
        self.assertEqual(ties([("tie", "new"), ALL], deeds), {1: None})

    def test_made_dropped_and_made_again(self):
        deeds = [("add", 1, 0), ("end", 1), ("tie", 1, 1), RUN]
        self.assertEqual(ties([ALL, DROP, ALL, ("tie", "new")], deeds), {2: 2})
        self.assertEqual(ties([DROP, ALL, ("tie", "new")], [*deeds, RUN]), {2: 2})

    def test_own_lines_are_never_in_a_scope(self):
        deeds = [("add", 5, 5), ("tie", 1, 1), ("own", 1), ("write tie", 1, 1), RUN]
        steps = [ALL, *[(word, scope) for word in ("start", "label", "tie") for scope in ("new", "all", "free")]]
        self.assertEqual(new(steps, deeds), [(1, 1, 0, 0, 1, None), (2, 5, 5, 0, 2, 1)])


class Together(unittest.TestCase):
    def test_a_whole_year(self):
        steps = [DROP, STANDING, ("start", "all"), ("label", "free"), ("tie", "free")]
        deeds = [("add", 10, 100), ("add", 20, 200), ("tie", 1, 2), RUN, ("moves", 1, -30), ("write label", 2, 25),
                 ("label", 1, 11), ("label", 2, 21), ("add", 30, 300), ("tie", 3, 1), ("own", 99),
                 ("write tie", 3, 1), RUN, ("end", 1), ("write moves", 2, 7), RUN]
        self.assertEqual(play(Script(tuple(steps)), deeds),
                         ([(1, 11, 100, -30, 2, False), (2, 21, 200, 0, None, True), (3, 30, 300, 0, 1, True)],
                          [(2, 25, 200, 7, None, 2), (3, 99, 0, 0, None, None), (4, 30, 300, 0, None, 3)]))

    def test_steps_in_their_order(self):
        deeds = [("add", 1, 0), ("end", 1), ("add", 2, 0), ("tie", 2, 1), RUN]
        self.assertEqual(new([ALL, ("tie", "new"), DROP], deeds), [(2, 2, 0, 0, None, 2)])
        self.assertEqual(new([ALL, DROP, ("tie", "new")], deeds), [(2, 2, 0, 0, None, 2)])
        self.assertEqual(new([DROP, ("tie", "new"), ALL], deeds), [(1, 1, 0, 0, None, 1), (2, 2, 0, 0, None, 2)])
        self.assertEqual(new([DROP, ALL, ("tie", "new")], deeds), [(1, 1, 0, 0, None, 1), (2, 2, 0, 0, 1, 2)])


if __name__ == "__main__":
    unittest.main()
