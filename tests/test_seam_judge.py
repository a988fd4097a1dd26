"""Promises 41.1 to 41.3: the judge of seams and of the steps of quilts."""

import itertools
import random
import unittest

from laidviews.flow import greatest_flow
from laidviews.quilt import lay_over, quilt, values
from laidviews.seam import cost, narrow_seam, net_of, overlap, seam_paper, wide_seam
from laidviews.seam_judge import accepts_quilt, accepts_seam, bad_seam

from plain import choices_of, plain_cost
from samples import JUNK, Touchy, picture, picture_pairs, random_bound, random_layers

BASE = {(0, 0): 5, (1, 0): 5, (2, 0): 9}
OVER = {(1, 0): 5, (2, 0): 4, (3, 0): 4}
SEAM = {(1, 0): 1, (2, 0): 1}

# With (1, 0) bound to 0, the net has the edges (1, 2, 5) and (2, 0, 5).
BOUND = {(1, 0): 0}
BOUND_SEAM = {(1, 0): 0, (2, 0): 1}
BOUND_FLOW = (-5, -5)

# Neither integers nor, as tuples, edges of a flow; and no dicts.
NO_INTEGERS = [junk for junk in JUNK if type(junk) is not int]


class JudgeCase(unittest.TestCase):
    def check_bad(self, base, over, bound, value, expected):
        before = repr((base, over, bound, value))
        self.assertEqual(bad_seam(base, over, bound, value), expected)
        self.assertIs(accepts_seam(base, over, bound, value), expected is None)
        self.assertEqual(repr((base, over, bound, value)), before)

    def check_word(self, value, expected):
        """Check the word for a value where (1, 0) is bound to 0."""
        self.check_bad(BASE, OVER, BOUND, value, expected)


class Accepted(JudgeCase):
    def test_example(self):
        self.check_bad(BASE, OVER, (), (SEAM, (0, 0, 0)), None)
        self.check_bad(BASE, OVER, {}, (SEAM, (0, 0, 0)), None)
        self.check_bad(BASE, OVER, {(2, 0): 1}, (SEAM, (0, 0)), None)
        self.check_word((BOUND_SEAM, BOUND_FLOW), None)
        self.check_word(({(2, 0): 0, (1, 0): 0}, BOUND_FLOW), None)

    def test_nothing_overlaps(self):
        self.check_bad({}, {}, (), ({}, ()), None)
        self.check_bad({}, OVER, (), ({}, ()), None)
        self.check_bad({(0, 0): 1}, {(1, 0): 2}, (), ({}, (0,)), None)
        self.check_bad({(0, 0): 1}, {(1, 0): 2}, (), ({}, ()), "flow")
        self.check_bad({(0, 0): 1}, {(1, 0): 2}, (), ({(0, 0): 0}, (0,)), "cells")

    def test_papers_of_both_seams(self):
        source = random.Random(1)
        for base, over in picture_pairs(100, 1):
            bound = random_bound(source, base, over)
            for seam in (narrow_seam(base, over, bound), wide_seam(base, over, bound)):
                self.check_bad(base, over, bound, seam_paper(base, over, bound, seam), None)

    def test_any_order_of_the_cells(self):
        base, over = picture("1 2 3\n4 5 6"), picture("2 2 9\n1 1 1\n1 1 1")
        choice, flow = seam_paper(base, over, (), narrow_seam(base, over))
        for cells in itertools.permutations(choice):
            self.check_bad(base, over, (), ({cell: choice[cell] for cell in cells}, flow), None)


class Words(JudgeCase):
    def test_form(self):
        for value in [
            [BOUND_SEAM, BOUND_FLOW],
            (BOUND_SEAM,),
            (BOUND_SEAM, BOUND_FLOW, None),
            (BOUND_SEAM, BOUND_FLOW, BOUND_FLOW),
            (BOUND_FLOW, BOUND_SEAM),
            (BOUND_SEAM, list(BOUND_FLOW)),
            (BOUND_SEAM, None),
            (BOUND_SEAM, 0),
            (BOUND_SEAM, {}),
            (BOUND_SEAM, Touchy()),
            (list(BOUND_SEAM.items()), BOUND_FLOW),
            (tuple(BOUND_SEAM), BOUND_FLOW),
            (None, BOUND_FLOW),
            (Touchy(), BOUND_FLOW),
            (Touchy(), Touchy()),
            ({}, []),
            BOUND_SEAM,
            BOUND_FLOW,
            Touchy(),
            None,
            *JUNK,
        ]:
            self.check_word(value, "form")

    def test_cells(self):
        for choice in [
            {},
            {(1, 0): 0},
            {(2, 0): 1},
            {(1, 0): 0, (2, 0): 1, (0, 0): 0},
            {(1, 0): 0, (2, 0): 1, (3, 0): 1},
            {(1, 0): 0, (2, 0): 1, (7, 7): 1},
            {(1, 0): 0, (3, 0): 1},
            {(1, 0): 0, (2, False): 1},
            {(True, 0): 0, (2, 0): 1},
            {(1, 0): 0, (2.0, 0): 1},
            {(1, 0): 0, (2, 0, 0): 1},
            {(1, 0): 0, "20": 1},
            {(1, 0): 0, None: 1},
            {1: 0, 2: 1},
        ]:
            self.check_word((choice, BOUND_FLOW), "cells")
        # The cells come ahead of wrong values, bound cells not kept, and wrong flows.
        self.check_word(({(1, 0): 5}, BOUND_FLOW), "cells")
        self.check_word(({(1, 0): 1, (0, 0): 1}, ()), "cells")

    def test_choice(self):
        for value in (2, -1, 10 ** 20, "1", "choice", True, False, 1.0, 0.0, Touchy(), *JUNK):
            self.check_word(({(1, 0): 0, (2, 0): value}, BOUND_FLOW), "choice")
            self.check_word(({(1, 0): value, (2, 0): 1}, BOUND_FLOW), "choice")
        # The values come ahead of bound cells not kept, and of wrong flows.
        self.check_word(({(1, 0): 1, (2, 0): 2}, BOUND_FLOW), "choice")
        self.check_word(({(1, 0): 0, (2, 0): True}, ()), "choice")

    def test_bound(self):
        self.check_word((SEAM, BOUND_FLOW), "bound")
        self.check_word(({(1, 0): 1, (2, 0): 0}, BOUND_FLOW), "bound")
        self.check_bad(BASE, OVER, {(1, 0): 1, (2, 0): 0}, ({(1, 0): 1, (2, 0): 1}, (0, 0, 0)), "bound")
        self.check_bad(BASE, OVER, {(1, 0): 1, (2, 0): 0}, ({(1, 0): 0, (2, 0): 0}, (0, 0, 0)), "bound")
        # Bound cells come ahead of wrong flows and worths.
        self.check_word((SEAM, ()), "bound")
        self.check_word((SEAM, (9, 9)), "bound")
        self.check_word((SEAM, (None, None)), "bound")

    def test_flow(self):
        for flow in [(), (-5,), (-5, -5, 0), (0, 0, 0), (-5, -4), (-4, -5), (-6, -6), (6, 6), (-5, 5)]:
            self.check_word((BOUND_SEAM, flow), "flow")
        for amount in (-5.0, "-5", None, (-5,), Touchy(), True, *NO_INTEGERS):
            self.check_word((BOUND_SEAM, (amount, amount)), "flow")
            self.check_word((BOUND_SEAM, (-5, amount)), "flow")
        self.check_bad(BASE, OVER, (), (SEAM, (0, 0, False)), "flow")
        self.check_bad(BASE, OVER, (), (SEAM, (False, False, False)), "flow")
        # A wrong flow comes ahead of a wrong worth.
        self.check_bad(BASE, OVER, (), ({(1, 0): 0, (2, 0): 0}, (0, 0)), "flow")

    def test_worth(self):
        for amount in (-4, -3, 0, 1, 4, 5):
            self.check_word((BOUND_SEAM, (amount, amount)), "worth")
        # A flow as great as there is, but a choice that costs more.
        for first, second in [(0, 0), (1, 0), (0, 1)]:
            self.check_bad(BASE, OVER, (), ({(1, 0): first, (2, 0): second}, (0, 0, 0)), "worth")

    def test_wrong_bound_cells_are_not_kept(self):
        for bound in ({(0, 0): 0}, {(3, 0): 1}, {(9, 9): 1}, {(2, 0): 2}):
            self.check_bad(BASE, OVER, bound, (SEAM, (0, 0, 0)), "bound")


class AllValues(JudgeCase):
    def test_all_choices_and_small_flows(self):
        """All choices with all flows, tried one by one, on pictures with few edges."""
        source = random.Random(2)
        accepted = 0
        for base, over in picture_pairs(300, 2):
            bound = random_bound(source, base, over)
            edges = net_of(base, over, bound)[1]
            if len(edges) <= 5 and all(room <= 3 for _, _, room in edges):
                least = min(cost(base, over, choice) for choice in choices_of(base, over, bound))
                for choice in choices_of(base, over, ()):
                    for flow in itertools.product(*[range(-room, room + 1) for _, _, room in edges]):
                        if accepts_seam(base, over, bound, (choice, flow)):
                            accepted += 1
                            self.assertEqual(cost(base, over, choice), least)
                            self.assertTrue(all(choice[cell] == bound[cell] for cell in bound))
        self.assertGreater(accepted, 50)

    def test_choices_that_cost_more(self):
        source = random.Random(3)
        for base, over in picture_pairs(60, 3):
            bound = random_bound(source, base, over)
            flow = tuple(greatest_flow(*net_of(base, over, bound)))
            least = min(plain_cost(base, over, choice) for choice in choices_of(base, over, bound))
            for choice in choices_of(base, over, ()):
                if any(choice[cell] != bound[cell] for cell in bound):
                    expected = "bound"
                elif plain_cost(base, over, choice) > least:
                    expected = "worth"
                else:
                    expected = None
                self.check_bad(base, over, bound, (choice, flow), expected)

    def test_flows_changed(self):
        for base, over in picture_pairs(60, 4):
            choice, flow = seam_paper(base, over, (), narrow_seam(base, over))
            for at in range(len(flow)):
                for change in (-1, 1):
                    changed = (*flow[:at], flow[at] + change, *flow[at + 1:])
                    word = bad_seam(base, over, (), (choice, changed))
                    # Between the source and the sink an amount may be changed alone, unless it is as great as the room.
                    self.assertIn(word, ("flow", "worth"))


class QuiltCase(unittest.TestCase):
    # The narrow seam of b shows a at their three cells, the wide one b, and both cost 2.
    # So c lies over the values 1 1 1 or 3 4 3, and its seam costs 1 or 3.
    LAYERS = [
        ("a", picture("0 1 1 1")),
        ("b", picture("3 4 3 7", 1)),
        ("c", picture("1 1 2\n5 5 5", 1)),
    ]

    def check_judged(self, layers, steps, expected):
        before = repr((layers, steps))
        self.assertIs(accepts_quilt(layers, steps), expected, steps)
        self.assertEqual(repr((layers, steps)), before)

    def steps_with(self, layers, seam_of):
        """The steps of layers that are laid by the seams that a function tells."""
        lying = lay_over({}, layers[0], {})
        steps = []
        for name, over in layers[1:]:
            choice = seam_of(values(lying), over)
            paper = seam_paper(values(lying), over, (), choice)
            steps.append((name, cost(values(lying), over, choice), paper))
            lying = lay_over(lying, (name, over), choice)
        return steps


class Quilts(QuiltCase):
    def test_the_layers_have_seams_that_cost(self):
        # Otherwise the tests below would try less than they seem to.
        base, over = self.LAYERS[0][1], self.LAYERS[1][1]
        self.assertEqual(overlap(base, over), [(1, 0), (2, 0), (3, 0)])
        self.assertEqual([step[1] for step in self.steps_with(self.LAYERS, narrow_seam)], [2, 1])
        self.assertEqual([step[1] for step in self.steps_with(self.LAYERS, wide_seam)], [2, 3])

    def test_steps_of_a_quilt(self):
        steps = quilt(self.LAYERS)[1]
        self.check_judged(self.LAYERS, steps, True)
        self.check_judged(self.LAYERS, tuple(steps), True)

    def test_steps_of_all_quilts(self):
        for layers in random_layers(80, 5):
            steps = quilt(layers)[1]
            self.check_judged(layers, steps, True)
            self.check_judged(layers, tuple(steps), True)

    def test_no_layer_and_one_layer(self):
        for layers in ([], [("a", BASE)], [("a", {})]):
            for steps in ([], ()):
                self.check_judged(layers, steps, True)
            for steps in ([None], [("a", 0, ({}, ()))], (("a", 0, ({}, ())),)):
                self.check_judged(layers, steps, False)

    def test_steps_left_out(self):
        steps = quilt(self.LAYERS)[1]
        for wrong in ([], steps[:1], steps[1:]):
            self.check_judged(self.LAYERS, wrong, False)
            self.check_judged(self.LAYERS, tuple(wrong), False)

    def test_steps_doubled_or_turned_round(self):
        one, two = quilt(self.LAYERS)[1]
        for wrong in ([one, one], [two, two], [two, one], [one, one, two], [one, two, two], [one, two, None]):
            self.check_judged(self.LAYERS, wrong, False)

    def test_other_names(self):
        one, two = quilt(self.LAYERS)[1]
        for name in ("a", "c", "", "B", b"b", None, 1, ("b",), Touchy(), *JUNK):
            self.check_judged(self.LAYERS, [(name, *one[1:]), two], False)
        self.check_judged(self.LAYERS, [("c", *one[1:]), ("b", *two[1:])], False)

    def test_other_costs(self):
        one, two = quilt(self.LAYERS)[1]
        self.assertEqual((one[1], two[1]), (2, 1))
        for price in (0, 1, 3, -2, "2", 2.0, None, (2,), Touchy(), *JUNK):
            self.check_judged(self.LAYERS, [("b", price, one[2]), two], False)
        for price in (0, 2, True, 1.0):
            self.check_judged(self.LAYERS, [one, ("c", price, two[2])], False)

    def test_other_papers(self):
        one, two = quilt(self.LAYERS)[1]
        choice, flow = one[2]
        other = {cell: 1 - choice[cell] for cell in choice}
        less = (*flow[:-1], flow[-1] + 1)
        for paper in [two[2], (other, flow), (choice, less), (choice, list(flow)), (choice,), choice, None, Touchy()]:
            self.check_judged(self.LAYERS, [(*one[:2], paper), two], False)
        for junk in JUNK:
            self.check_judged(self.LAYERS, [one, (*two[:2], junk)], False)
            self.check_judged(self.LAYERS, [one, (*two[:2], (junk, two[2][1]))], False)
            self.check_judged(self.LAYERS, [one, (*two[:2], (two[2][0], junk))], False)

    def test_wide_seams(self):
        narrow_steps = quilt(self.LAYERS)[1]
        wide_steps = self.steps_with(self.LAYERS, wide_seam)
        self.assertNotEqual(narrow_steps[0][2][0], wide_steps[0][2][0])
        self.check_judged(self.LAYERS, wide_steps, True)
        # What lies is another picture now, so the step behind it must be made anew.
        self.check_judged(self.LAYERS, [wide_steps[0], narrow_steps[1]], False)
        self.check_judged(self.LAYERS, [narrow_steps[0], wide_steps[1]], False)

    def test_any_seams(self):
        source = random.Random(6)
        for layers in random_layers(60, 6):
            if layers:
                steps = self.steps_with(layers, source.choice([narrow_seam, wide_seam]))
                self.check_judged(layers, steps, True)
                mixed = self.steps_with(layers, lambda base, over: source.choice([narrow_seam, wide_seam])(base, over))
                self.check_judged(layers, mixed, True)

    def test_choices_that_are_no_seams(self):
        one, two = quilt(self.LAYERS)[1]
        base, over = self.LAYERS[0][1], self.LAYERS[1][1]
        for choice in choices_of(base, over, ()):
            price = plain_cost(base, over, choice)
            if price != one[1]:
                self.check_judged(self.LAYERS[:2], [("b", price, (choice, one[2][1]))], False)

    def test_names_twice(self):
        layers = [("a", BASE), ("a", OVER)]
        steps = [("a", 0, (SEAM, (0, 0, 0)))]
        self.check_judged(layers, steps, False)
        self.check_judged([("b", BASE), ("a", OVER)], steps, True)

    def test_other_layers(self):
        steps = quilt(self.LAYERS)[1]
        first, second, third = self.LAYERS
        for layers in [self.LAYERS[:2], [second, first, third], [*self.LAYERS, ("d", {})], []]:
            self.check_judged(layers, steps, False)
        darker = {cell: value - cell[0] for cell, value in second[1].items()}
        self.check_judged([first, ("b", darker), third], steps, False)


class OtherKinds(QuiltCase):
    def test_steps_of_other_kinds(self):
        steps = quilt(self.LAYERS)[1]
        for wrong in [dict(enumerate(steps)), iter(steps), None, "bc", Touchy(), steps[0], *JUNK]:
            self.assertIs(accepts_quilt(self.LAYERS, wrong), False)
        for wrong in ({}, set(), "", None, 0, False, b"", Touchy()):
            self.assertIs(accepts_quilt([], wrong), False)
            self.assertIs(accepts_quilt([("a", BASE)], wrong), False)

    def test_a_step_of_another_kind(self):
        one, two = quilt(self.LAYERS)[1]
        for wrong in [list(one), one[:2], (*one, None), (), None, "b", dict(enumerate(one)), Touchy(), *JUNK]:
            self.check_judged(self.LAYERS, [wrong, two], False)
            self.check_judged(self.LAYERS, (wrong, two), False)


if __name__ == "__main__":
    unittest.main()
