import itertools
import random
import unittest

from whomaywhat.atoms import makes_true
from whomaywhat.bounds import bound_of, find_ring, is_ring, nearest_numbers
from whomaywhat.requests import make_request

BIG = 10 ** 40
HUGE = 10 ** 5000


def most(x, y, c, truth=True):
    return (("most", x, y, c), truth)


def earliness(number):
    return (abs(number), number < 0)


class BoundOfTest(unittest.TestCase):
    def test_both_truths(self):
        for x, y in (("x", "y"), ("", "x"), ("a", "aa")):
            for c in (0, 1, -1, 7, BIG, -BIG, HUGE):
                self.assertEqual(bound_of(most(x, y, c)), (x, y, c))
                self.assertEqual(bound_of(most(x, y, c, False)), (y, x, -c - 1))

    def test_requests_keep_the_bound(self):
        for x, y in itertools.product(range(-3, 4), repeat=2):
            request = make_request(numbers=[("x", x), ("y", y)])
            values = {"": 0, "x": x, "y": y}
            for one, other in (("x", "y"), ("", "x"), ("", "y")):
                for c, truth in itertools.product(range(-7, 8), (True, False)):
                    first, second, limit = bound_of(most(one, other, c, truth))
                    keeps = values[first] - values[second] <= limit
                    self.assertIs(makes_true(request, most(one, other, c, truth)), keeps)


class IsRingTest(unittest.TestCase):
    def test_no_literals(self):
        self.assertIs(is_ring(()), False)

    def test_one_literal(self):
        self.assertIs(is_ring((most("x", "x", -1),)), True)
        self.assertIs(is_ring((most("x", "x", 0),)), False)
        self.assertIs(is_ring((most("x", "x", 0, False),)), True)
        self.assertIs(is_ring((most("x", "y", -1),)), False)
        self.assertIs(is_ring((most("", "x", -BIG),)), False)

    def test_two_literals(self):
        # x minus y is at most 3, and y minus x at most -d - 1.
        for d, ring in ((1, False), (2, False), (3, True), (4, True), (BIG, True), (-BIG, False)):
            self.assertIs(is_ring((most("x", "y", 3), most("x", "y", d, False))), ring)
            self.assertIs(is_ring((most("x", "y", d, False), most("x", "y", 3))), ring)
            self.assertIs(is_ring((most("", "y", 3), most("", "y", d, False))), ring)
        self.assertIs(is_ring((most("x", "y", -3), most("x", "y", -3))), False)
        self.assertIs(is_ring((most("x", "y", -3), most("x", "z", 3, False))), False)
        self.assertIs(is_ring((most("x", "y", -3, False), most("x", "y", -3, False))), False)

    def test_three_literals(self):
        # x - y <= 2, y - z <= -5, z - x <= -c - 1
        for c, ring in ((-5, False), (-4, False), (-3, True), (-2, True)):
            first, second, third = most("x", "y", 2), most("y", "z", -5), most("x", "z", c, False)
            for one, two, three in ((first, second, third), (second, third, first), (third, first, second)):
                self.assertIs(is_ring((one, two, three)), ring)
                self.assertIs(is_ring((three, two, one)), False)
                self.assertIs(is_ring((one, two)), False)
            self.assertIs(is_ring((first, second, third, first, second, third)), ring)

    def test_places_that_do_not_meet(self):
        self.assertIs(is_ring((most("x", "y", -9), most("z", "zz", -9))), False)
        self.assertIs(is_ring((most("x", "y", -9), most("y", "z", -9))), False)
        # Inside the places meet, but the last does not lead back.
        self.assertIs(is_ring((most("x", "y", -1), most("x", "y", 0, False), most("x", "z", -9))), False)

    def test_the_sum_alone_counts(self):
        self.assertIs(is_ring((most("x", "y", BIG), most("x", "y", BIG - 1, False))), False)
        self.assertIs(is_ring((most("x", "y", BIG), most("x", "y", BIG, False))), True)


def random_literals(dice, fields, many, size=4):
    literals = []
    for _ in range(dice.randrange(many + 1)):
        x, y = sorted(dice.sample(("",) + fields, 2))
        literals.append(most(x, y, dice.randrange(-size, size + 1), dice.random() < 0.5))
    return tuple(literals)


def keeps_all(literals, values):
    return all(values[x] - values[y] <= c for x, y, c in map(bound_of, literals))


class FindRingTest(unittest.TestCase):
    def test_none(self):
        for literals in ((), (most("x", "y", -1),), (most("x", "y", 3), most("x", "y", 2, False))):
            self.assertEqual(find_ring(literals), ())

    def test_found(self):
        ring = (most("x", "y", 3), most("x", "y", 3, False))
        noise = (most("", "x", 0), most("", "y", -9), most("a", "b", BIG))
        for literals in itertools.permutations(ring + noise):
            found = find_ring(literals)
            self.assertIs(is_ring(found), True)
            self.assertEqual(set(found), set(ring))

    def test_a_ring_of_one(self):
        self.assertEqual(find_ring((most("a", "b", 0), most("x", "x", -1))), (most("x", "x", -1),))

    def test_a_ring_of_many(self):
        names = sorted(a + b for a in "abcdefg" for b in "abcdefg")
        chain = [most(x, y, -1) for x, y in zip(names, names[1:])]
        back = most(names[0], names[-1], -len(chain), False)
        self.assertEqual(find_ring(tuple(chain)), ())
        self.assertEqual(find_ring((*chain, most(names[0], names[-1], -len(chain) - 1, False))), ())
        for literals in ((*chain, back), (back, *reversed(chain))):
            found = find_ring(literals)
            self.assertIs(is_ring(found), True)
            self.assertEqual(sorted(found), sorted(literals))

    def test_random_literals(self):
        dice = random.Random(32)
        rings = 0
        for _ in range(3000):
            literals = random_literals(dice, ("x", "y", "z", "zz"), 8, 9)
            ring = find_ring(literals)
            self.assertIsInstance(ring, tuple)
            if ring:
                rings += 1
                self.assertIs(is_ring(ring), True)
                self.assertLessEqual(set(ring), set(literals))
            else:
                values = nearest_numbers(literals, ("x", "y", "z", "zz"))
                self.assertTrue(keeps_all(literals, dict(zip(("", "x", "y", "z", "zz"), (0, *values)))))
        self.assertGreater(rings, 500)
        self.assertLess(rings, 2500)


class NearestNumbersTest(unittest.TestCase):
    def test_the_example(self):
        literals = (most("", "x", -3), most("x", "y", 4, False))
        self.assertEqual(nearest_numbers(literals, ("x", "y")), (3, -2))

    def test_no_literals(self):
        self.assertEqual(nearest_numbers((), ()), ())
        self.assertEqual(nearest_numbers((), ("x",)), (0,))
        self.assertEqual(nearest_numbers((), ("a", "b", "x")), (0, 0, 0))

    def test_fields_that_no_literal_has(self):
        self.assertEqual(nearest_numbers((most("", "x", -3),), ("a", "x", "z")), (0, 3, 0))
        self.assertEqual(nearest_numbers((most("b", "y", -3),), ("a", "b", "x", "y", "z")), (0, 0, 0, 3, 0))

    def test_zero_positive_and_negative(self):
        for c in (0, 1, 5, BIG):
            self.assertEqual(nearest_numbers((most("", "x", c),), ("x",)), (0,))
            self.assertEqual(nearest_numbers((most("", "x", -c - 2, False),), ("x",)), (0,))
            self.assertEqual(nearest_numbers((most("", "x", -c),), ("x",)), (c,))
            self.assertEqual(nearest_numbers((most("", "x", c, False),), ("x",)), (-c - 1,))

    def test_from_both_sides(self):
        for low, high, nearest in ((-3, 4, 0), (2, 7, 2), (-9, -4, -4), (5, 5, 5), (-BIG, -BIG, -BIG), (0, 9, 0)):
            literals = (most("", "x", -low), most("", "x", -high - 1, False))
            self.assertEqual(nearest_numbers(literals, ("x",)), (nearest,))
            self.assertEqual(nearest_numbers(literals[::-1], ("x",)), (nearest,))

    def test_the_first_field_comes_first(self):
        # x and y differ by 10: x stays 0, and y goes its way.
        self.assertEqual(nearest_numbers((most("x", "y", -10),), ("x", "y")), (0, 10))
        self.assertEqual(nearest_numbers((most("x", "y", 9, False),), ("x", "y")), (0, -10))
        # y is at most 3, so x cannot stay 0.
        self.assertEqual(nearest_numbers((most("x", "y", -10), most("", "y", -4, False)), ("x", "y")), (-7, 3))

    def test_chains_and_large_bounds(self):
        literals = (most("a", "b", -HUGE), most("b", "c", -1), most("", "c", -1, False))
        self.assertEqual(nearest_numbers(literals, ("a", "b", "c")), (-HUGE - 1, -1, 0))
        names = tuple(sorted(a + b for a in "abcdef" for b in "abcdefghij"))
        literals = tuple(most(x, y, -2) for x, y in zip(names, names[1:]))
        self.assertEqual(nearest_numbers(literals, names), tuple(range(0, 120, 2)))

    def test_random_literals_one_by_one(self):
        dice = random.Random(33)
        fields = ("x", "y", "z")
        near = sorted(range(-13, 14), key=earliness)
        tried = 0
        for _ in range(600):
            literals = random_literals(dice, fields, 5)
            if find_ring(literals):
                continue
            tried += 1
            expected = next(
                values for values in itertools.product(near, repeat=3)
                if keeps_all(literals, dict(zip(fields, values), **{"": 0}))
            )
            self.assertEqual(nearest_numbers(literals, fields), expected)
            self.assertEqual(nearest_numbers(literals[::-1], fields), expected)
        self.assertGreater(tried, 300)


if __name__ == "__main__":
    unittest.main()
