"""Point [10]: what is wrong behind the runs."""

import unittest

from yearturned.plays import faults, play
from yearturned.scripts import Script

RUN = ("run",)
DROP = ("drop",)
ALL = ("make", "all")
STANDING = ("make", "standing")


def told(steps, deeds):
    return faults(Script(tuple(steps)), deeds)


class NoFaults(unittest.TestCase):
    def test_without_runs(self):
        self.assertEqual(told([], []), [])
        self.assertEqual(told([], [("add", 1, 1), ("end", 1), ("own", 1)]), [])

    def test_without_lines(self):
        self.assertEqual(told([], [RUN, RUN]), [])
        self.assertEqual(told([], [("own", 1), RUN, ("write label", 1, 2), ("write tie", 1, 1), RUN]), [])

    def test_all_in_order(self):
        steps = [DROP, STANDING, ("start", "all"), ("label", "free"), ("tie", "free")]
        deeds = [("add", 10, 100), ("add", 20, 200), ("tie", 1, 2), RUN, ("moves", 1, -30), ("write label", 2, 25),
                 ("label", 1, 11), ("label", 2, 21), ("add", 30, 300), ("tie", 3, 1), ("own", 99),
                 ("write tie", 3, 1), RUN, ("end", 1), ("write moves", 2, 7), RUN, RUN]
        self.assertEqual(told(steps, deeds), [])

    def test_new_lists_and_nothing_changed(self):
        deeds = [("add", 1, 1), RUN]
        one, other = told([], deeds), told([], deeds)
        self.assertEqual(one, [("missing", 1, 1)])
        self.assertIsNot(one, other)
        one.clear()
        self.assertEqual(told([], deeds), other)
        self.assertEqual(deeds, [("add", 1, 1), RUN])
        self.assertEqual({type(fault) for fault in other}, {tuple})
        self.assertIsNot(told([], []), told([], []))
        self.assertEqual(faults(Script(()), deeds=deeds), other)


class Document(unittest.TestCase):
    def test_its_example(self):
        script = Script((("make", "standing"), ("start", "new"), ("drop",)))
        deeds = [("add", 70, 5), ("run",), ("moves", 1, 3), ("write moves", 1, 2), ("run",)]
        self.assertEqual(play(script, deeds), ([(1, 70, 5, 3, None, True)], [(1, 70, 5, 2, None, 1)]))
        self.assertEqual(faults(script, deeds), [("start", 4, 1)])


class MissingAndStays(unittest.TestCase):
    DEEDS = [("add", 1, 1), ("add", 2, 2), ("end", 1), RUN]

    def test_missing(self):
        self.assertEqual(told([], self.DEEDS), [("missing", 3, 2)])
        self.assertEqual(told([DROP], self.DEEDS), [("missing", 3, 2)])
        self.assertEqual(told([STANDING], self.DEEDS), [])
        self.assertEqual(told([], [("add", 1, 1), ("add", 2, 2), RUN]), [("missing", 2, 1), ("missing", 2, 2)])

    def test_stays(self):
        self.assertEqual(told([ALL], self.DEEDS), [("stays", 3, 1)])
        self.assertEqual(told([ALL, DROP], self.DEEDS), [])
        self.assertEqual(told([DROP, ALL], self.DEEDS), [("stays", 3, 1)])
        deeds = [("add", 1, 1), RUN, ("end", 1), RUN]
        self.assertEqual(told([STANDING], deeds), [("stays", 3, 1)])
        self.assertEqual(told([STANDING, DROP], deeds), [])

    def test_stays_and_nothing_else_of_it(self):
        deeds = [("add", 1, 1), RUN, ("label", 1, 2), ("moves", 1, 2), ("tie", 1, 1), ("end", 1), RUN]
        self.assertEqual(told([STANDING], deeds), [("stays", 6, 1)])

    def test_what_an_ended_line_lacks_is_no_fault(self):
        self.assertEqual(told([], [("add", 1, 1), ("end", 1), RUN]), [])

    def test_at_the_time_of_the_run(self):
        self.assertEqual(told([], [("add", 1, 1), RUN, ("end", 1), RUN, ("add", 2, 2), RUN]),
                         [("missing", 1, 1), ("missing", 5, 2)])
        self.assertEqual(told([STANDING], [("add", 1, 1), RUN, ("end", 1)]), [])


class Start(unittest.TestCase):
    def test_not_the_closing(self):
        deeds = [("add", 1, 5), RUN, ("moves", 1, 3), RUN]
        self.assertEqual(told([STANDING], deeds), [("start", 3, 1)])
        self.assertEqual(told([STANDING, ("start", "new")], deeds), [("start", 3, 1)])
        self.assertEqual(told([STANDING, ("start", "all")], deeds), [])
        self.assertEqual(told([STANDING, ("start", "free")], deeds), [])

    def test_the_closing_again(self):
        self.assertEqual(told([STANDING], [("add", 1, 5), RUN, ("moves", 1, 3), ("moves", 1, 0), RUN]), [])

    def test_new_moves_do_not_matter(self):
        self.assertEqual(told([STANDING], [("add", 1, 5), RUN, ("write moves", 1, 3), RUN]), [])

    def test_whatever_is_typed(self):
        deeds = [("add", 1, 5), RUN, ("write label", 1, 1), ("write tie", 1, None), ("moves", 1, 3), RUN]
        self.assertEqual(told([STANDING], deeds), [("start", 5, 1)])


class Label(unittest.TestCase):
    DEEDS = [("add", 1, 5), RUN, ("label", 1, 2)]

    def test_not_the_old_label(self):
        self.assertEqual(told([STANDING], [*self.DEEDS, RUN]), [("label", 3, 1)])
        self.assertEqual(told([STANDING, ("label", "new")], [*self.DEEDS, RUN]), [("label", 3, 1)])
        self.assertEqual(told([STANDING, ("label", "free")], [*self.DEEDS, RUN]), [])
        self.assertEqual(told([STANDING, ("label", "all")], [*self.DEEDS, RUN]), [])

    def test_typed_ones_may_differ(self):
        self.assertEqual(told([STANDING], [*self.DEEDS, ("write label", 1, 7), RUN]), [])
        self.assertEqual(told([STANDING], [*self.DEEDS, ("write label", 1, 1), RUN]), [])

    def test_typed_ties_do_not_matter(self):
        self.assertEqual(told([STANDING], [*self.DEEDS, ("write tie", 1, None), RUN]), [("label", 4, 1)])
        self.assertEqual(told([STANDING], [*self.DEEDS, ("write moves", 1, 1), RUN]), [("label", 4, 1)])

    def test_the_old_label_again(self):
        self.assertEqual(told([STANDING], [*self.DEEDS, ("label", 1, 1), RUN]), [])


class Tie(unittest.TestCase):
    DEEDS = [("add", 1, 0), ("add", 2, 0), ("tie", 1, 2), RUN]

    def test_no_tie_where_one_is_wished(self):
        self.assertEqual(told([STANDING], self.DEEDS), [("tie", 3, 1)])
        for scope in ("new", "all", "free"):
            self.assertEqual(told([STANDING, ("tie", scope)], self.DEEDS), [])

    def test_a_tie_where_none_is_wished(self):
        deeds = [*self.DEEDS, ("tie", 1, None), RUN]
        self.assertEqual(told([STANDING, ("tie", "new")], deeds), [("tie", 5, 1)])
        self.assertEqual(told([STANDING, ("tie", "free")], deeds), [])

    def test_another_tie(self):
        deeds = [*self.DEEDS, ("tie", 1, 1), RUN]
        self.assertEqual(told([STANDING, ("tie", "new")], deeds), [("tie", 5, 1)])
        self.assertEqual(told([STANDING, ("tie", "all")], deeds), [])

    def test_typed_ones_may_differ(self):
        for tie in (None, 1, 2):
            self.assertEqual(told([STANDING], [*self.DEEDS, ("write tie", 1, tie), RUN]), [("tie", 3, 1)])

    def test_typed_labels_do_not_matter(self):
        self.assertEqual(told([STANDING], [*self.DEEDS, ("write label", 1, 1), RUN]), [("tie", 3, 1), ("tie", 5, 1)])

    def test_to_an_ended_line_that_has_a_made_line(self):
        deeds = [*self.DEEDS, ("end", 2), RUN]
        self.assertEqual(told([STANDING, ("tie", "all")], deeds), [("tie", 5, 1), ("stays", 5, 2)])
        self.assertEqual(told([STANDING, ("tie", "all"), DROP], deeds), [])
        self.assertEqual(told([STANDING, DROP, ("tie", "all")], deeds), [])
        self.assertEqual(told([ALL], [("add", 1, 0), ("add", 2, 0), ("end", 2), ("tie", 1, 2), RUN]), [("stays", 4, 2)])

    def test_to_a_standing_line_without_a_made_line(self):
        deeds = [("add", 1, 0), RUN, ("add", 2, 0), ("tie", 1, 2), RUN]
        self.assertEqual(told([("tie", "all"), STANDING], deeds), [("tie", 4, 1)])
        self.assertEqual(told([STANDING, ("tie", "new")], deeds), [("tie", 4, 1)])
        self.assertEqual(told([STANDING, ("tie", "all")], deeds), [])

    def test_to_itself(self):
        deeds = [("own", 0), ("add", 1, 0), ("tie", 1, 1), RUN]
        self.assertEqual(told([STANDING], deeds), [("tie", 3, 1)])
        self.assertEqual(told([STANDING, ("tie", "new")], deeds), [])


class TypedLabel(unittest.TestCase):
    DEEDS = [("own", 9), ("add", 1, 5), RUN, ("write label", 2, 7), RUN]

    def test_overwritten(self):
        self.assertEqual(told([STANDING, ("label", "all")], self.DEEDS), [("typed label", 4, 2)])
        self.assertEqual(told([STANDING, ("label", "free")], self.DEEDS), [])
        self.assertEqual(told([STANDING, ("label", "new")], self.DEEDS), [])

    def test_by_its_own_number_and_once(self):
        self.assertEqual(told([STANDING, ("label", "all")], [*self.DEEDS, RUN]), [("typed label", 4, 2)])
        self.assertEqual(told([STANDING, ("label", "all")], [*self.DEEDS, ("write label", 2, 8), RUN]),
                         [("typed label", 4, 2), ("typed label", 6, 2)])

    def test_with_the_same_label(self):
        self.assertEqual(told([STANDING, ("label", "all")], [*self.DEEDS[:3], ("write label", 2, 1), RUN]), [])

    def test_typed_and_then_changed_in_the_old_ledger(self):
        deeds = [*self.DEEDS[:3], ("write label", 2, 1), ("label", 1, 3), RUN]
        self.assertEqual(told([STANDING, ("label", "all")], deeds), [("typed label", 5, 2)])

    def test_labels_that_are_not_typed(self):
        for deed in (("write tie", 2, 1), ("write moves", 2, 1), ("write label", 1, 5)):
            self.assertEqual(told([STANDING, ("label", "all")], [*self.DEEDS[:3], ("label", 1, 3), deed, RUN]), [])

    def test_of_a_line_that_goes(self):
        deeds = [*self.DEEDS[:4], ("end", 1), RUN]
        self.assertEqual(told([STANDING, ("label", "all"), DROP], deeds), [])
        self.assertEqual(told([DROP, ALL], deeds), [("stays", 5, 1)])

    def test_of_an_ended_line_that_stays(self):
        deeds = [*self.DEEDS[:4], ("end", 1), RUN]
        self.assertEqual(told([STANDING, ("label", "all")], deeds), [("stays", 5, 1), ("typed label", 5, 2)])


class TypedTie(unittest.TestCase):
    DEEDS = [("own", 9), ("add", 1, 0), ("add", 2, 0), RUN, ("write tie", 2, 1), RUN]

    def test_overwritten(self):
        self.assertEqual(told([STANDING, ("tie", "all")], self.DEEDS), [("typed tie", 5, 2)])
        self.assertEqual(told([STANDING, ("tie", "free")], self.DEEDS), [])
        self.assertEqual(told([STANDING, ("tie", "new")], self.DEEDS), [])

    def test_overwritten_by_another(self):
        deeds = [*self.DEEDS[:5], ("tie", 1, 2), RUN]
        self.assertEqual(told([STANDING, ("tie", "all")], deeds), [("typed tie", 6, 2)])
        self.assertEqual(told([STANDING, ("tie", "free")], deeds), [])

    def test_a_typed_none_overwritten(self):
        deeds = [*self.DEEDS[:4], ("write tie", 2, None), ("tie", 1, 2), RUN]
        self.assertEqual(told([STANDING, ("tie", "all")], deeds), [("typed tie", 6, 2)])
        self.assertEqual(told([STANDING, ("tie", "free")], deeds), [])

    def test_with_the_same_tie(self):
        deeds = [*self.DEEDS[:4], ("write tie", 2, 3), ("tie", 1, 2), RUN]
        self.assertEqual(told([STANDING, ("tie", "all")], deeds), [])

    def test_ties_that_are_not_typed(self):
        for deed in (("write label", 2, 1), ("write moves", 2, 1), ("write tie", 1, 2)):
            self.assertEqual(told([STANDING, ("tie", "all")], [*self.DEEDS[:4], ("tie", 1, 2), deed, RUN]), [])

    def test_led_to_a_line_that_went(self):
        deeds = [*self.DEEDS[:4], ("write tie", 2, 3), ("write tie", 1, 3), ("end", 2), RUN]
        self.assertEqual(told([STANDING, DROP], deeds), [])
        self.assertEqual(told([STANDING, ("tie", "all"), DROP], deeds), [])
        self.assertEqual(told([STANDING, DROP, ("tie", "all")], [*deeds[:7], ("tie", 1, 1), RUN]), [])

    def test_led_to_a_line_that_went_and_came_again(self):
        deeds = [*self.DEEDS[:4], ("write tie", 2, 3), ("tie", 1, 2), ("end", 2), RUN]
        self.assertEqual(play(Script((DROP, ALL, ("tie", "all"))), deeds)[1],
                         [(1, 9, 0, 0, None, None), (2, 1, 0, 0, 4, 1), (4, 2, 0, 0, None, 2)])
        self.assertEqual(told([DROP, ALL, ("tie", "all")], deeds), [("stays", 7, 2)])

    def test_led_to_a_line_that_stays(self):
        deeds = [*self.DEEDS[:4], ("write tie", 2, 1), ("write tie", 1, 3), ("tie", 1, 2), ("end", 2), RUN]
        self.assertEqual(told([STANDING, ("tie", "all"), DROP], deeds), [("typed tie", 8, 2)])

    def test_changed_on_the_way_alone(self):
        # The typed None becomes a tie to the line of 2, and None again when this line is dropped.
        deeds = [*self.DEEDS[:4], ("write tie", 2, None), ("tie", 1, 2), ("end", 2), RUN]
        self.assertEqual(told([STANDING, ("tie", "all"), DROP], deeds), [])

    def test_of_an_ended_line_that_stays(self):
        self.assertEqual(told([STANDING, ("tie", "all")], [*self.DEEDS[:5], ("end", 1), RUN]),
                         [("stays", 6, 1), ("typed tie", 6, 2)])


class Order(unittest.TestCase):
    def test_all_of_one_line(self):
        deeds = [("add", 1, 0), RUN, ("label", 1, 2), ("moves", 1, 1), ("tie", 1, 1), RUN]
        self.assertEqual(told([STANDING], deeds), [("start", 5, 1), ("label", 5, 1), ("tie", 5, 1)])

    def test_both_typed_of_one_line(self):
        deeds = [("add", 1, 0), RUN, ("write tie", 1, 1), ("write label", 1, 2), RUN]
        self.assertEqual(told([STANDING, ("tie", "all"), ("label", "all")], deeds),
                         [("typed label", 4, 1), ("typed tie", 4, 1)])

    def test_old_lines_by_their_numbers_then_new_lines_by_theirs(self):
        # The new lines 1, 2 and 3 are of the old lines 2, 3 and 1.
        steps = [STANDING, ("label", "all"), ("tie", "all"), ("make", "all")]
        deeds = [("add", 10, 0), ("end", 1), ("add", 20, 0), ("add", 30, 0), RUN, ("write label", 1, 5),
                 ("write tie", 1, 1), ("write label", 2, 5), ("write label", 3, 5), ("moves", 2, 1), ("moves", 3, 1),
                 RUN]
        self.assertEqual(told(steps, deeds),
                         [("stays", 4, 1), ("stays", 11, 1), ("start", 11, 2), ("start", 11, 3),
                          ("typed label", 11, 1), ("typed tie", 11, 1), ("typed label", 11, 2),
                          ("typed label", 11, 3)])

    def test_made_out_of_order(self):
        # New line 1 is of old line 2, new line 2 of old line 1.
        steps = [STANDING, ALL, ("label", "all")]
        deeds = [("add", 10, 0), ("end", 1), ("add", 20, 0), RUN, ("write label", 1, 5), ("write label", 2, 6),
                 ("moves", 2, 1), RUN]
        self.assertEqual(told(steps, deeds), [("stays", 3, 1), ("stays", 7, 1), ("start", 7, 2),
                                              ("typed label", 7, 1), ("typed label", 7, 2)])

    def test_run_by_run(self):
        deeds = [("add", 1, 0), RUN, ("moves", 1, 1), RUN, RUN, ("add", 2, 0), ("end", 1), RUN, ("moves", 2, 1),
                 ("write label", 2, 9), RUN]
        self.assertEqual(told([STANDING], deeds),
                         [("start", 3, 1), ("start", 4, 1), ("stays", 7, 1), ("stays", 10, 1), ("start", 10, 2)])

    def test_made_in_this_run_is_not_ahead_of_it(self):
        deeds = [("own", 1), ("add", 1, 0), ("tie", 1, 1), RUN]
        self.assertEqual(told([STANDING, ("tie", "all"), ("label", "all")], deeds), [])


if __name__ == "__main__":
    unittest.main()
