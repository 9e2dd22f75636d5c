import copy
import itertools
import random
import time
import unittest

from lampforge.errors import NoPair, NoPaper
from lampforge.heard import heard
from lampforge.known import known
from lampforge.papers import look_paper, look_two
from lampforge.works import beside
from tests.things import ODD, goals_of, nested, plain_look, refused, same_runs, some_work, swapped

NOTHING = ([], [], [], [])

# An in 1, boxes 2 3 4, gates 5: in and box 2, 6: in and box 3, 7: 5 and not box 4, 8: 6 and not box 4.
# Boxes 2 and 3 go on by gates 7 and 8, so that they are always alike; box 4 keeps its first.
WORK = (1, [(1, 14), (1, 16), (0, 8)], [(2, 4), (2, 6), (10, 9), (12, 9)], [14, 16])
GOALS = [(14, 16)]
# In the start net: in 1, gates 2 3 4 5. In the next net: leaves 1 2 3 4 and 5, gates 6 7 8 9 and 10 11 12 13.
KEPT = [(4, 6), (8, 0), (10, 12), (7, 5)]
STARTS = [("stands", 4, 6, (2,)), ("row", 2, 4, (2,))]
NEXTS = [("stands", 12, 14, (2, 4)), ("row", 16, 18, (12,)), ("stands", 20, 22, (10, 16))]
NOWS = [("row", 14, 16, (10,)), ("stands", 14, 16, (10,)), ("row", 16, 14, (10,))]
PAPER = (KEPT, STARTS, NEXTS, NOWS)


class PaperTest(unittest.TestCase):
    def fails(self, work, goals, paper, where, at):
        before = copy.deepcopy((work, goals, paper))
        refused(self, NoPaper, {"where": where, "at": at}, look_paper, work, goals, paper)
        self.assertEqual((work, goals, paper), before)
        self.assertEqual(plain_look(work, goals, paper), (where, at))

    def holds(self, work, goals, paper):
        before = copy.deepcopy((work, goals, paper))
        self.assertIsNone(look_paper(work, goals, paper))
        self.assertEqual((work, goals, paper), before)
        self.assertIsNone(plain_look(work, goals, paper))

    def test_a_paper(self):
        self.holds(WORK, GOALS, PAPER)
        self.holds(WORK, GOALS + [(15, 17), (4, 6), (8, 0), (9, 1), (16, 14), (3, 3), (13, 11)], PAPER)
        self.holds(WORK, [], PAPER)

    def test_lists_and_tuples_for_the_four(self):
        for kinds in itertools.product((list, tuple), repeat=4):
            self.holds(WORK, GOALS, tuple(kind(part) for kind, part in zip(kinds, PAPER)))

    def test_no_tuple_of_four(self):
        for thing in ODD + (0, 4, "paper", list(PAPER), PAPER[:3], PAPER + ([],), (PAPER,), [PAPER], ((), (), (), None)):
            if thing not in (NOTHING, ((), (), (), ())):
                self.fails(WORK, GOALS, thing, "paper", 0)
                self.fails(WORK, [], nested(thing, 3), "paper", 0)
        for place in range(4):
            for thing in (None, 0, 1, True, "", "ab", "stands"):
                self.fails(WORK, GOALS, swapped(PAPER, place, thing), "paper", 0)
                self.fails(WORK, GOALS, swapped(NOTHING, place, thing), "paper", 0)

    def test_the_paper_of_nothing(self):
        self.holds(WORK, [], NOTHING)
        self.holds(WORK, [(4, 4), (0, 0)], NOTHING)
        self.holds(WORK, [(4, 4)], ((), (), (), ()))
        self.fails(WORK, [(4, 6)], NOTHING, "now", 0)
        self.fails(WORK, [(4, 5)], NOTHING, "now", 0)
        self.holds((0, [], [], []), [(0, 0), (1, 1)], NOTHING)
        self.fails((0, [], [], []), [(0, 1)], NOTHING, "now", 0)

    def test_kept_things_that_are_no_pairs(self):
        wrong = (None, 0, (4,), (4, 6, 6), [4, 6], (4, 18), (18, 4), (-1, 4), (4, -1), (True, 1), (0, False), (4, None),
                 ("4", 6), ((4, 6),), (), "46", (4, 10 ** 59), ((4,), 6))
        for thing in wrong:
            for place in range(5):
                kept = KEPT[:place] + [thing] + KEPT[place:]
                self.fails(WORK, GOALS, swapped(PAPER, 0, kept), "kept", place)
                # Ahead of all that is due later.
                self.fails(WORK, [(4, 5)], (kept, [None], [None], [None]), "kept", place)
        self.fails(WORK, GOALS, ([(4, 5), None, None], [], [], []), "kept", 1)
        self.holds(WORK, [], swapped(PAPER, 0, KEPT + [(9, 1), (0, 0), (1, 1), (3, 3)]))
        self.holds(WORK, [(17, 17)], ([(17, 17)], [], [], []))

    def test_bad_start_steps(self):
        for place in range(3):
            for bad in (None, ("stands", 4, 6, [2]), ("stands", 4, 12, (2,)), ("row", 4, 5, (2,)), ("rows", 4, 4, (2,)),
                        ("stands", 4, 6, ()), ("stands", 4, 6, (2, 3)), ("stands", 4, 6, (2, 0)), ("stands", True, 1, ())):
                steps = STARTS[:place] + [bad] + STARTS[place:]
                self.fails(WORK, GOALS, swapped(PAPER, 1, steps), "start", place)
                self.fails(WORK, [(4, 5)], (KEPT + [(14, 2)], steps + [None], [None], [None]), "start", place)

    def test_kept_pairs_that_do_not_hold_at_the_start(self):
        for pair in ((4, 8), (4, 0), (8, 1), (4, 7), (2, 3), (2, 0), (16, 14), (10, 13)):
            for place in range(5):
                kept = KEPT[:place] + [pair] + KEPT[place:]
                self.fails(WORK, GOALS, swapped(PAPER, 0, kept), "start", 2)
                self.fails(WORK, [(4, 5)], (kept, STARTS + STARTS, [None], [None]), "start", 4)
        self.fails(WORK, GOALS, swapped(PAPER, 1, []), "start", 0)
        self.fails(WORK, GOALS, swapped(PAPER, 1, STARTS[1:]), "start", 1)

    def test_bad_next_steps(self):
        for place in range(4):
            for bad in (None, ("stands", 12, 14, [2]), ("stands", 12, 28, (2, 4)), ("row", 12, 15, (2, 4)),
                        ("rows", 12, 14, (2, 4)), ("stands", 12, 14, (2,)), ("stands", 12, 14, (2, 4, 6)),
                        ("stands", 12, 14, (2, 4, 8)), ("stands", 24, 26, (2, 4)), ("stands", 12, 14, (2, 4, 5))):
                steps = NEXTS[:place] + [bad] + NEXTS[place:]
                self.fails(WORK, GOALS, swapped(PAPER, 2, steps), "next", place)
                self.fails(WORK, [(4, 5)], (KEPT, STARTS, steps + [None], [None]), "next", place)

    def test_kept_pairs_that_do_not_hold_at_the_next_beat(self):
        for many in range(3):
            self.fails(WORK, GOALS, swapped(PAPER, 2, NEXTS[:many]), "next", many)
            self.fails(WORK, [(4, 5)], swapped(swapped(PAPER, 2, NEXTS[:many]), 3, [None]), "next", many)
        # Without box 4 being low a step is not good.
        self.fails(WORK, GOALS, (KEPT[:1], STARTS, NEXTS, NOWS), "next", 1)
        # Box 2 is high at first, yet not later.
        self.fails(WORK, [], ([(4, 1)], [], [], []), "next", 0)
        for place in range(5):
            kept = KEPT[:place] + [(4, 1)] + KEPT[place:]
            self.fails(WORK, GOALS, (kept, STARTS, NEXTS[1:], NOWS), "next", 2)

    def test_bad_now_steps(self):
        for place in range(4):
            for bad in (None, ("stands", 10, 12, [2]), ("stands", 10, 18, (2, 4)), ("row", 10, 13, (2, 4)),
                        ("rows", 10, 12, (2, 4)), ("stands", 10, 12, (2,)), ("stands", 10, 12, (2, 4, 6)),
                        ("stands", 10, 12, (2, 4, 8)), ("row", 14, 14, (2, 8)), ("stands", 4, 10, (2, 4))):
                steps = NOWS[:place] + [bad] + NOWS[place:]
                self.fails(WORK, GOALS, swapped(PAPER, 3, steps), "now", place)
                self.fails(WORK, [(4, 5)], swapped(PAPER, 3, steps + [None]), "now", place)

    def test_goals_that_are_not_alike(self):
        for goals in ([(14, 17)], [(4, 6), (14, 10), (14, 16)], [(14, 16), (2, 4)], [(4, 7)], [(1, 8)]):
            self.fails(WORK, goals, PAPER, "now", 3)
        self.fails(WORK, GOALS, swapped(PAPER, 3, []), "now", 0)

    def test_what_one_net_shows_is_not_known_in_another(self):
        self.fails(WORK, GOALS, (KEPT, STARTS, NEXTS, []), "now", 0)
        self.fails(WORK, GOALS, (KEPT, STARTS, [], NOWS), "next", 0)
        self.fails(WORK, GOALS, ([], STARTS, NEXTS[:1], NOWS), "next", 0)
        self.fails(WORK, GOALS, ([], STARTS, [], NOWS), "now", 0)

    def test_steps_whose_ends_are_alike_already(self):
        self.holds(WORK, GOALS, (KEPT * 3, STARTS[:1] * 3 + STARTS, NEXTS * 3, NOWS * 3))
        self.holds(WORK, [], ([], [("stands", 2, 2, (2,))], [("row", 4, 4, (4,))], [("stands", 0, 0, ())]))

    def test_no_ins_no_boxes_no_gates(self):
        self.holds((2, [], [], [2, 4]), [(2, 2)], ([(2, 2), (1, 1)], [], [], []))
        self.fails((2, [], [], [2, 4]), [(2, 4)], ([(2, 4)], [], [], []), "start", 0)
        self.holds((0, [(1, 2), (1, 4)], [], []), [(2, 4)], ([(2, 4)], [], [], []))
        self.fails((0, [(1, 2), (0, 4)], [], []), [(2, 4)], ([(2, 4)], [], [], []), "start", 0)
        self.holds((0, [(1, 2), (0, 4)], [], []), [(2, 5)], ([(2, 5)], [], [], []))
        self.fails((0, [(1, 2), (0, 5)], [], []), [(2, 5)], ([(2, 5)], [], [], []), "next", 0)

    def test_long_papers(self):
        paper = (KEPT * 300, STARTS[:1] * 1000, NEXTS * 500, NOWS * 500)
        begun = time.perf_counter()
        self.assertIsNone(look_paper(WORK, GOALS, paper))
        refused(self, NoPaper, {"where": "now", "at": 1500}, look_paper, WORK, GOALS, paper[:3] + (NOWS * 500 + [None],))
        self.assertLess(time.perf_counter() - begun, 10)


class TwoTest(unittest.TestCase):
    def test_works_that_are_no_pair(self):
        one = (1, [(0, 2)], [], [4, 2])
        for other in ((2, [(0, 2)], [], [4, 2]), (1, [(0, 2)], [], [4]), (1, [(0, 2)], [], [4, 2, 2]), (0, [], [], [0, 0])):
            for paper in (NOTHING, None, 0, "paper", [NOTHING], ([None], [], [], [])):
                for pair in ((one, other), (other, one)):
                    refused(self, NoPair, {}, look_two, pair[0], pair[1], paper)

    def test_a_work_and_itself(self):
        for work in ((0, [], [], []), (2, [], [], [0, 1, 2, 3, 5])):
            self.assertIsNone(look_two(work, work, NOTHING))
        work = (1, [(0, 2)], [], [4])
        refused(self, NoPaper, {"where": "now", "at": 0}, look_two, work, work, NOTHING)
        self.assertIsNone(look_two(work, work, ([(4, 6)], [], [], [])))
        work = (2, [], [(2, 4)], [6])
        refused(self, NoPaper, {"where": "now", "at": 0}, look_two, work, work, NOTHING)
        self.assertIsNone(look_two(work, work, ([], [], [], [("row", 6, 8, (2, 4))])))

    def test_goals_out_by_out(self):
        one, other = (2, [], [], [2, 4]), (2, [], [], [4, 2])
        refused(self, NoPaper, {"where": "now", "at": 0}, look_two, one, other, NOTHING)
        self.assertIsNone(look_two(one, (2, [], [], [2, 4]), NOTHING))
        refused(self, NoPaper, {"where": "now", "at": 0}, look_two, one, (2, [], [], [2, 5]), NOTHING)

    def test_things_that_are_no_papers(self):
        one = (1, [(0, 2)], [], [4])
        for thing in ODD + (0, NOTHING[:3], list(NOTHING)):
            refused(self, NoPaper, {"where": "paper", "at": 0}, look_two, one, one, thing)
        refused(self, NoPaper, {"where": "kept", "at": 0}, look_two, one, one, ([(4, 8)], [], [], []))

    def test_nothing_is_changed(self):
        one, other = (1, [(0, 2)], [], [4]), (1, [(0, 2)], [], [4])
        paper = ([(4, 6)], [], [("stands", 2, 2, (2,))], [])
        before = copy.deepcopy((one, other, paper))
        look_two(one, other, paper)
        self.assertEqual((one, other, paper), before)


def some_step(rng, knots):
    near = rng.sample(range(1, knots), min(knots - 1, rng.randrange(4)))
    return (rng.choice(("stands", "row")), rng.randrange(2 * knots), rng.randrange(2 * knots),
            tuple(2 * knot + rng.randrange(2) for knot in near))


class AnyTest(unittest.TestCase):
    """Any papers against a plain checker; and what is let by is true."""

    def look_at(self, one, other, paper):
        due = plain_look(beside(one, other), goals_of(one, other), paper)
        if due is None:
            self.assertIsNone(look_two(one, other, paper), (one, other, paper))
            self.assertTrue(same_runs(one, other), (one, other, paper))
        else:
            refused(self, NoPaper, {"where": due[0], "at": due[1]}, look_two, one, other, paper)
        return due

    def test_any_steps(self):
        rng = random.Random(1)
        seen = {}
        for turn in range(3000):
            ins = rng.randrange(3)
            one = some_work(rng, ins, rng.randrange(3), rng.randrange(3), 1)
            other = rng.choice((one, some_work(rng, ins, rng.randrange(3), rng.randrange(3), 1)))
            both = beside(one, other)
            boxes, gates = len(both[1]), len(both[2])
            knots = 1 + ins + boxes + gates
            kept = [(rng.randrange(2 * knots), rng.randrange(2 * knots)) for pair in range(rng.randrange(3))]
            if one == other:
                kept += [(2 * (1 + ins + place), 2 * (1 + ins + len(one[1]) + place)) for place in range(len(one[1]))]
            sizes = (1 + ins + gates, 1 + 2 * ins + boxes + 2 * gates, knots)
            paper = (kept,) + tuple([some_step(rng, size) for step in range(rng.randrange(3))] for size in sizes)
            due = self.look_at(one, other, paper)
            seen[due and due[0]] = seen.get(due and due[0], 0) + 1
        self.assertEqual(set(seen), {None, "start", "next", "now"})

    def test_papers_of_passes_with_something_changed(self):
        rng = random.Random(2)
        seen = {}
        for turn in range(400):
            ins = rng.randrange(3)
            work = some_work(rng, ins, rng.randrange(4), rng.randrange(5), 2)
            new, paper = rng.choice((heard, known))(work)
            self.assertIsNone(self.look_at(work, new, paper))
            for change in range(6):
                changed = self.changed(rng, new)
                due = self.look_at(work, changed, paper)
                seen[due and due[0]] = seen.get(due and due[0], 0) + 1
                due = self.look_at(work, new, self.changed_paper(rng, paper))
                seen[due and due[0]] = seen.get(due and due[0], 0) + 1
        # What holds at the start can be joined, so that no pair here is refused as kept.
        self.assertEqual(set(seen), {None, "start", "next", "now"})

    def changed(self, rng, work):
        ins, boxes, gates, outs = copy.deepcopy(work)
        kind = rng.randrange(4)
        if kind == 0 and boxes:
            place = rng.randrange(len(boxes))
            boxes[place] = (1 - boxes[place][0], boxes[place][1])
        elif kind == 1 and boxes:
            place = rng.randrange(len(boxes))
            boxes[place] = (boxes[place][0], boxes[place][1] ^ 1)
        elif kind == 2 and gates:
            place = rng.randrange(len(gates))
            gates[place] = (gates[place][0] ^ 1, gates[place][1])
        elif outs:
            place = rng.randrange(len(outs))
            outs[place] = outs[place] ^ rng.randrange(2)
        return (ins, boxes, gates, outs)

    def changed_paper(self, rng, paper):
        paper = [list(part) for part in paper]
        part = rng.choice([part for part in paper if part] or [paper[0]])
        if not part:
            part.append((0, 0))
        place = rng.randrange(len(part))
        kind = rng.randrange(3)
        if kind == 0:
            part.pop(place)
        elif kind == 1:
            thing = part[place]
            if len(thing) == 2:
                part[place] = (thing[0], thing[1] ^ 1)
            else:
                part[place] = (thing[0], thing[1], thing[2] ^ rng.randrange(4), thing[3][rng.randrange(2):])
        else:
            part.insert(rng.randrange(len(part) + 1), part[place])
        return tuple(paper)


if __name__ == "__main__":
    unittest.main()
