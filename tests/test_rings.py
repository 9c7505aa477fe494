import unittest
from itertools import permutations

from beatmakers.errors import BadCount, BadWeb
from beatmakers.rings import keeps, ordered, ring
from helper import BAD_COUNTS, COUNTS, good_webs, is_kept, is_ring, orders, pairs, ring_webs, webs


def fewest_in_a_ring(many, web):
    """Held against all rows of three unlike things or more; None if none of them is a ring."""
    beats = set(web)
    for size in range(3, many + 1):
        if any(is_ring(beats, row) for row in permutations(range(many), size)):
            return size
    return None


def first_order(many, web):
    """Held against all orders, in the order of tuples; None if none of them keeps the web."""
    for order in orders(many):
        if is_kept(web, order):
            return order
    return None


class WebsTest(unittest.TestCase):
    """What the other tests hang on: the webs they try hold what is asked."""

    def test_webs_with_and_without_rings_are_tried(self):
        for many in range(3, 7):
            sizes = {fewest_in_a_ring(many, web) for web in webs(many, 60)}
            sizes |= {size for size, web in ring_webs(many)}
            self.assertEqual(sizes, {None} | set(range(3, many + 1)))

    def test_all_webs_of_few_things_are_tried(self):
        for many in range(1, 5):
            different = {frozenset(web) for web in webs(many)}
            self.assertEqual(len(different), 3 ** len(pairs(many)))


class RingTest(unittest.TestCase):
    def held(self, many, web):
        fewest = fewest_in_a_ring(many, web)
        told = ring(many, web)
        if fewest is None:
            self.assertIsNone(told, (many, web))
            return
        self.assertIs(type(told), list)
        self.assertEqual(len(told), fewest, (many, web, told))
        self.assertEqual(len(set(told)), len(told), (many, web, told))
        self.assertTrue(is_ring(web, told), (many, web, told))

    def test_told_rings(self):
        self.assertIn(ring(3, [(0, 1), (1, 2), (2, 0)]), ([0, 1, 2], [1, 2, 0], [2, 0, 1]))
        self.assertIn(ring(3, [(0, 2), (1, 0), (2, 1)]), ([0, 2, 1], [2, 1, 0], [1, 0, 2]))
        self.assertIsNone(ring(3, [(0, 1), (1, 2), (0, 2)]))
        self.assertIsNone(ring(2, [(1, 0)]))

    def test_arguments_by_name(self):
        self.assertIsNone(ring(many=2, web=[(0, 1)]))

    def test_empty_web_has_no_ring(self):
        for many in COUNTS:
            self.assertIsNone(ring(many, []))

    def test_as_few_things_as_any(self):
        for many in COUNTS:
            for web in webs(many):
                self.held(many, web)

    def test_one_ring_alone(self):
        for many in COUNTS:
            for size, web in ring_webs(many):
                told = ring(many, web)
                self.assertEqual(len(told), size)
                self.assertTrue(is_ring(web, told))

    def test_short_ring_beside_a_long_one(self):
        long_ring = [(0, 1), (1, 2), (2, 3), (3, 4), (4, 5), (5, 0)]
        for short in ((3, 0), (2, 0), (5, 3), (4, 2), (0, 4)):
            self.held(6, long_ring + [short])
            self.held(6, [short] + long_ring[::-1])

    def test_two_rings_apart(self):
        self.held(6, [(0, 1), (1, 2), (2, 0), (3, 4), (4, 5), (5, 3)])

    def test_none_just_where_some_order_keeps_the_web(self):
        for many in COUNTS:
            for web in webs(many):
                kept = any(is_kept(web, order) for order in orders(many))
                self.assertEqual(ring(many, web) is None, kept, (many, web))


class OrderedTest(unittest.TestCase):
    def test_told_orders(self):
        self.assertEqual(ordered(3, []), (0, 1, 2))
        self.assertEqual(ordered(3, [(2, 0)]), (1, 2, 0))
        self.assertEqual(ordered(3, [(2, 0), (2, 1)]), (2, 0, 1))
        self.assertEqual(ordered(4, [(3, 0)]), (1, 2, 3, 0))
        self.assertIsNone(ordered(3, [(0, 1), (1, 2), (2, 0)]))
        self.assertIsNone(ordered(5, [(2, 3), (3, 4), (4, 2)]))

    def test_arguments_by_name(self):
        self.assertEqual(ordered(many=2, web=[(1, 0)]), (1, 0))

    def test_empty_web_keeps_the_things_rising(self):
        for many in COUNTS:
            self.assertEqual(ordered(many, []), tuple(range(many)))

    def test_first_of_all_orders(self):
        for many in COUNTS:
            for web in webs(many):
                told = ordered(many, web)
                self.assertEqual(told, first_order(many, web), (many, web))
                self.assertIn(type(told), (tuple, type(None)))

    def test_rings_are_kept_by_no_order(self):
        for many in COUNTS:
            for size, web in ring_webs(many):
                self.assertIsNone(ordered(many, web), (many, web))

    def test_each_order_from_its_own_full_web(self):
        for many in COUNTS:
            for order in orders(many):
                web = [(one, other) for place, one in enumerate(order) for other in order[:place:-1]]
                self.assertEqual(ordered(many, web), order)


class KeepsTest(unittest.TestCase):
    def test_told_answers(self):
        self.assertIs(keeps(3, [(0, 1), (2, 1)], (2, 0, 1)), True)
        self.assertIs(keeps(3, [(0, 1), (2, 1)], (0, 1, 2)), False)
        self.assertIs(keeps(3, [(0, 1), (1, 2), (2, 0)], (0, 1, 2)), False)
        self.assertIs(keeps(1, [], (0,)), True)

    def test_arguments_by_name(self):
        self.assertIs(keeps(many=2, web=[(1, 0)], order=(1, 0)), True)

    def test_empty_web_is_kept_by_all(self):
        for many in COUNTS:
            for order in orders(many):
                self.assertIs(keeps(many, [], order), True)

    def test_all_orders_of_few_things(self):
        for many in range(1, 5):
            for web in webs(many):
                for order in orders(many):
                    self.assertIs(keeps(many, web, order), is_kept(web, order), (many, web, order))

    def test_all_orders_of_more_things(self):
        for many in (5, 6):
            for web in webs(many, 40):
                for order in orders(many):
                    self.assertIs(keeps(many, web, order), is_kept(web, order), (many, web, order))

    def test_the_first_order_keeps_its_web(self):
        for many in COUNTS:
            for web in webs(many):
                order = ordered(many, web)
                if order is not None:
                    self.assertIs(keeps(many, web, order), True)


def places(web):
    return sorted({0, len(web) // 2, len(web)})


class RefusedTest(unittest.TestCase):
    def refused(self, error, many, web, order=None):
        order = tuple(range(many)) if order is None else order
        with self.assertRaises(error):
            ring(many, web)
        with self.assertRaises(error):
            ordered(many, web)
        with self.assertRaises(error):
            keeps(many, web, order)

    def refused_at_each_place(self, many, web, faulty):
        for place in places(web):
            self.refused(BadWeb, many, web[:place] + [faulty] + web[place:])

    def test_bad_count(self):
        for many in BAD_COUNTS:
            self.refused(BadCount, many, [], (0, 1))
            self.refused(BadCount, many, [(0, 1)], (0, 1))

    def test_seven_things_with_a_right_web_are_refused(self):
        self.refused(BadCount, 7, [(5, 6)], tuple(range(7)))

    def test_a_thing_that_is_not_there(self):
        for many in COUNTS:
            for web in good_webs(many):
                for wrong in (many, many + 1, -1, -many, 10 ** 30, -(10 ** 30), 10 ** 5000):
                    for thing in sorted({0, many - 1}):
                        self.refused_at_each_place(many, web, (wrong, thing))
                        self.refused_at_each_place(many, web, (thing, wrong))
                self.refused_at_each_place(many, web, (many, many + 1))
                self.refused_at_each_place(many, web, (-1, -2))

    def test_a_thing_and_itself(self):
        for many in COUNTS:
            for web in good_webs(many):
                for thing in range(many):
                    self.refused_at_each_place(many, web, (thing, thing))

    def test_a_beat_twice(self):
        for many in COUNTS:
            for web in good_webs(many):
                for beat in web:
                    self.refused_at_each_place(many, web, beat)

    def test_a_beat_both_ways_round(self):
        for many in COUNTS:
            for web in good_webs(many):
                for one, other in web:
                    self.refused_at_each_place(many, web, (other, one))

    def test_bad_count_ahead_of_bad_web(self):
        faulty = ([(0, 0)], [(0, 1), (0, 1)], [(0, 1), (1, 0)], [(-1, 0)], [(0, 10 ** 30)])
        for many in BAD_COUNTS:
            for web in faulty:
                self.refused(BadCount, many, web, (0, 1))


class OwnTest(unittest.TestCase):
    def test_handed_webs_stay_as_they_are(self):
        for many in COUNTS:
            for web in webs(many, 100):
                before = list(web)
                ring(many, web)
                ordered(many, web)
                keeps(many, web, tuple(range(many)))
                self.assertEqual(web, before)

    def test_refused_webs_stay_as_they_are(self):
        web = [(2, 1), (1, 0), (1, 1)]
        for ask in (ring, ordered, lambda many, web: keeps(many, web, (0, 1, 2))):
            with self.assertRaises(BadWeb):
                ask(3, web)
            self.assertEqual(web, [(2, 1), (1, 0), (1, 1)])

    def test_told_rings_may_be_changed(self):
        web = [(0, 1), (1, 2), (2, 0), (3, 0)]
        told = ring(4, web)
        told.append("mine")
        told[0] = "mine"
        again = ring(4, web)
        self.assertIsNot(again, told)
        self.assertEqual(sorted(again), [0, 1, 2])
        self.assertTrue(is_ring(web, again))

    def test_handed_webs_may_be_changed_later(self):
        web = [(0, 1), (1, 2), (2, 0)]
        told = ring(3, web)
        before = list(told)
        web[2] = (0, 2)
        self.assertEqual(told, before)
        self.assertIsNone(ring(3, web))
        self.assertEqual(ordered(3, web), (0, 1, 2))
        web[0] = (1, 0)
        self.assertEqual(ordered(3, web), (1, 0, 2))
        self.assertIs(keeps(3, web, (0, 1, 2)), False)
        web.clear()
        self.assertEqual(told, before)
        self.assertIs(keeps(3, web, (0, 1, 2)), True)


if __name__ == "__main__":
    unittest.main()
