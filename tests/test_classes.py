import random
import time
import unittest

from lampforge.classes import Classes
from tests.things import PlainClasses


class ClassesTest(unittest.TestCase):
    def same(self, classes, plain, knots):
        for one in range(2 * knots):
            self.assertEqual(classes.least(one), plain.least(one), one)
            self.assertIs(type(classes.least(one)), int)
            for other in range(2 * knots):
                self.assertIs(classes.alike(one, other), plain.alike(one, other))

    def test_none_joined(self):
        self.same(Classes(4), PlainClasses(4), 4)
        self.same(Classes(1), PlainClasses(1), 1)

    def test_one_join(self):
        for one in range(8):
            for other in range(8):
                classes, plain = Classes(4), PlainClasses(4)
                self.assertIs(classes.join(one, other), plain.join(one, other))
                self.assertIs(classes.alike(one, other), one != other ^ 1)
                self.same(classes, plain, 4)

    def test_an_end_and_its_contrary(self):
        classes = Classes(3)
        self.assertIs(classes.join(2, 3), False)
        self.assertIs(classes.join(0, 1), False)
        self.assertIs(classes.join(4, 4), True)
        self.same(classes, PlainClasses(3), 3)

    def test_what_can_not_be_joined_leaves_all_as_it_was(self):
        classes, plain = Classes(6), PlainClasses(6)
        for one, other in ((2, 5), (4, 9), (6, 10), (1, 11)):
            self.assertIs(classes.join(one, other), True)
            plain.join(one, other)
        for one, other in ((2, 4), (2, 9), (3, 8), (0, 7), (1, 6), (10, 0)):
            due = plain.join(one, other)
            self.assertIs(classes.join(one, other), due, (one, other))
            self.same(classes, plain, 6)

    def test_any_joins(self):
        rng = random.Random(1)
        for turn in range(150):
            knots = rng.randint(1, 9)
            classes, plain = Classes(knots), PlainClasses(knots)
            for step in range(rng.randrange(14)):
                one, other = rng.randrange(2 * knots), rng.randrange(2 * knots)
                self.assertIs(classes.join(one, other), plain.join(one, other))
                if step % 4 == 0:
                    self.same(classes, plain, knots)
            self.same(classes, plain, knots)

    def test_two_beside_one_another(self):
        one, other = Classes(3), Classes(3)
        one.join(2, 4)
        self.assertIs(other.alike(2, 4), False)
        self.assertEqual(other.least(4), 4)

    def test_many_knots(self):
        knots = 20000
        begun = time.perf_counter()
        for order in (range(1, knots), range(knots - 1, 0, -1)):
            classes = Classes(knots)
            for knot in order:
                self.assertIs(classes.join(2 * knot, 2 * knot - 1), True)
            self.assertEqual([classes.least(2 * knot) for knot in range(knots)], [knot % 2 for knot in range(knots)])
        classes = Classes(knots)
        for knot in range(1, knots):
            classes.join(2 * knot, 2 * (knot // 2))
            self.assertIs(classes.alike(0, 2 * knot), True)
        self.assertLess(time.perf_counter() - begun, 10)


if __name__ == "__main__":
    unittest.main()
