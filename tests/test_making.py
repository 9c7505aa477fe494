import unittest
from itertools import combinations, combinations_with_replacement, permutations
from time import perf_counter

from beatmakers.errors import TooMany
from beatmakers.making import fewest, makers, makes
from beatmakers.voters import web_of
from helper import COUNTS, counted_web, full_web_by_number, orders, pairs, some_voters, webs

SIZES = (0, 1, 2, 3, 6, 11, 59, 60)
SHORT_TIME = 5  # seconds; far more than a call takes, far less than a search of all voters would


def two_voters(many, one, other):
    """The two voters for a beat, thing by thing."""
    first = [one, other]
    second = []
    for thing in range(many):
        if thing not in (one, other):
            first.append(thing)
            second.insert(0, thing)
    return [tuple(first), tuple(second + [one, other])]


def other_ways_round(web):
    """The same beats in other orders."""
    made = [list(web), web[::-1], sorted(web), sorted(web, reverse=True)]
    return made + [web[cut:] + web[:cut] for cut in range(1, len(web))]


class MakersTest(unittest.TestCase):
    def test_told_voters(self):
        self.assertEqual(makers(3, [(2, 0)]), [(2, 0, 1), (1, 2, 0)])
        self.assertEqual(makers(2, [(1, 0)]), [(1, 0), (1, 0)])
        self.assertEqual(makers(5, [(3, 1)]), [(3, 1, 0, 2, 4), (4, 2, 0, 3, 1)])
        self.assertEqual(
            makers(4, [(2, 3), (0, 2)]),
            [(2, 3, 0, 1), (1, 0, 2, 3), (0, 2, 1, 3), (3, 1, 0, 2)],
        )
        self.assertEqual(
            makers(4, [(0, 2), (2, 3)]),
            [(0, 2, 1, 3), (3, 1, 0, 2), (2, 3, 0, 1), (1, 0, 2, 3)],
        )

    def test_arguments_by_name(self):
        self.assertEqual(makers(many=2, web=[(0, 1)]), [(0, 1), (0, 1)])

    def test_no_voters_for_the_empty_web(self):
        for many in COUNTS:
            self.assertEqual(makers(many, []), [])

    def test_beat_by_beat_in_the_order_of_the_web(self):
        for many in COUNTS:
            for web in webs(many):
                told = makers(many, web)
                expected = [voter for beat in web for voter in two_voters(many, *beat)]
                self.assertEqual(told, expected, (many, web))
                self.assertIs(type(told), list)
                self.assertTrue(all(type(voter) is tuple for voter in told))

    def test_the_same_beats_in_other_orders(self):
        for many in COUNTS:
            for number in (0, 5, 2 ** len(pairs(many)) - 1):
                for web in other_ways_round(full_web_by_number(many, number)):
                    expected = [voter for beat in web for voter in two_voters(many, *beat)]
                    self.assertEqual(makers(many, web), expected)

    def test_the_web_of_the_voters_is_the_one_handed_in(self):
        for many in COUNTS:
            for web in webs(many, 200):
                told = makers(many, web)
                self.assertEqual(counted_web(many, told), sorted(web), (many, web))
                self.assertEqual(web_of(many, told), sorted(web))

    def test_the_two_agree_on_their_beat_alone(self):
        for many in range(2, 7):
            for beat in permutations(range(many), 2):
                first, second = makers(many, [beat])
                agreed = set(combinations(first, 2)) & set(combinations(second, 2))
                self.assertEqual(agreed, {beat})


class MakesTest(unittest.TestCase):
    def test_told_answers(self):
        self.assertIs(makes(3, [(0, 1, 2), (1, 2, 0), (2, 0, 1)], [(2, 0), (0, 1), (1, 2)]), True)
        self.assertIs(makes(3, [(0, 1, 2), (1, 2, 0), (2, 0, 1)], [(2, 0), (0, 1)]), False)
        self.assertIs(makes(3, [(0, 1, 2), (2, 0, 1)], [(0, 1)]), True)
        self.assertIs(makes(3, [(0, 1, 2), (2, 0, 1)], [(1, 0)]), False)
        self.assertIs(makes(3, [(0, 1, 2), (2, 0, 1)], [(0, 1), (1, 2)]), False)
        self.assertIs(makes(1, [(0,), (0,)], []), True)

    def test_arguments_by_name(self):
        self.assertIs(makes(many=2, voters=[(1, 0)], web=[(1, 0)]), True)

    def test_the_voters_for_a_web_make_it(self):
        for many in COUNTS:
            for web in webs(many):
                self.assertIs(makes(many, makers(many, web), web), True, (many, web))

    def test_no_voters_make_the_empty_web_alone(self):
        for many in COUNTS:
            for web in webs(many):
                self.assertIs(makes(many, [], web), web == [], (many, web))

    def test_each_order_of_the_beats(self):
        for many in COUNTS:
            for size in SIZES:
                voters = some_voters(many, size, 7)
                for web in other_ways_round(counted_web(many, voters)):
                    self.assertIs(makes(many, voters, web), True, (many, voters, web))

    def test_all_beats_in_all_orders(self):
        voters = [(3, 1, 0, 2)]
        for web in permutations(counted_web(4, voters)):
            self.assertIs(makes(4, voters, list(web)), True)

    def test_a_beat_less_one_more_or_turned_round(self):
        for many in range(2, 7):
            for size in SIZES:
                voters = some_voters(many, size, 11)
                theirs = counted_web(many, voters)
                for one, other in pairs(many):
                    rest = [beat for beat in theirs if sorted(beat) != [one, other]]
                    for wish in ([], [(one, other)], [(other, one)]):
                        web = (rest + wish)[::-1]
                        self.assertIs(makes(many, voters, web), sorted(web) == theirs, (many, voters, web))

    def test_other_voters(self):
        for many in COUNTS:
            for step in (0, 1, 7):
                for size in SIZES:
                    voters = some_voters(many, size, step)
                    theirs = web_of(many, voters)
                    for web in webs(many, 40):
                        self.assertIs(makes(many, voters, web), sorted(web) == theirs, (many, voters, web))

    def test_more_than_sixty_voters_are_not_refused(self):
        self.assertIs(makes(2, [(0, 1)] * 61, [(0, 1)]), True)
        self.assertIs(makes(2, [(0, 1)] * 61, [(1, 0)]), False)


def webs_by_voters(many, size):
    """All webs that just so many voters make, held against all voters; their order makes no other web."""
    two = pairs(many)
    steps = [[1 if order.index(one) < order.index(other) else -1 for one, other in two] for order in orders(many)]
    made = set()
    for chosen in combinations_with_replacement(steps, size):
        beats = []
        for place, (one, other) in enumerate(two):
            total = sum([voter[place] for voter in chosen])
            if total:
                beats.append((one, other) if total > 0 else (other, one))
        made.add(frozenset(beats))
    return made


class FewestTest(unittest.TestCase):
    @classmethod
    def setUpClass(cls):
        # Six is what the webs of four things need at most: test_no_fewer_do fails if told voters are more.
        cls.made = {many: [webs_by_voters(many, size) for size in range(7)] for many in range(1, 5)}

    def needed(self, many, web):
        for size, made in enumerate(self.made[many]):
            if frozenset(web) in made:
                return size
        return None

    def test_told_voters(self):
        self.assertEqual(fewest(1, []), [])
        self.assertEqual(fewest(4, []), [])
        self.assertEqual(fewest(2, [(1, 0)]), [(1, 0)])
        self.assertEqual(fewest(4, [(1, 0), (2, 1), (2, 0), (3, 0), (3, 1), (3, 2)]), [(3, 2, 1, 0)])
        self.assertEqual(sorted(fewest(3, [(0, 1), (2, 0), (1, 2)])), [(0, 1, 2), (1, 2, 0), (2, 0, 1)])

    def test_arguments_by_name(self):
        self.assertEqual(fewest(many=2, web=[(0, 1)]), [(0, 1)])

    def test_every_web_is_tried(self):
        for many in range(1, 5):
            self.assertEqual(len({frozenset(web) for web in webs(many)}), 3 ** len(pairs(many)))
            self.assertEqual(len(set().union(*self.made[many])), 3 ** len(pairs(many)))

    def test_the_voters_make_the_web(self):
        for many in range(1, 5):
            for web in webs(many):
                told = fewest(many, web)
                self.assertIs(type(told), list)
                self.assertTrue(all(type(voter) is tuple for voter in told))
                self.assertTrue(all(sorted(voter) == list(range(many)) for voter in told), (many, web, told))
                self.assertEqual(counted_web(many, told), sorted(web), (many, web, told))
                self.assertIs(makes(many, told, web), True)

    def test_no_fewer_do(self):
        for many in range(1, 5):
            for web in webs(many):
                self.assertEqual(len(fewest(many, web)), self.needed(many, web), (many, web))

    def test_where_many_voters_are_needed(self):
        self.assertEqual(len(fewest(3, [(0, 1), (1, 2)])), 4)
        self.assertEqual(len(fewest(4, [(0, 1), (1, 2), (2, 0)])), 6)
        self.assertEqual(len(fewest(4, [(3, 1), (1, 2), (2, 3), (0, 1)])), 6)

    def test_the_order_of_the_beats_makes_no_odds(self):
        web = [(0, 1), (1, 2), (2, 0), (3, 0)]
        for turned in permutations(web):
            told = fewest(4, list(turned))
            self.assertEqual(len(told), self.needed(4, web))
            self.assertEqual(counted_web(4, told), sorted(web))

    def test_every_call_ends_in_a_short_time(self):
        for many in range(1, 5):
            for web in webs(many):
                start = perf_counter()
                fewest(many, web)
                self.assertLess(perf_counter() - start, SHORT_TIME, (many, web))

    def test_too_many_things(self):
        for many in (5, 6):
            for web in webs(many, 100) + [[], [(0, 1)], [(many - 1, 0)]]:
                with self.assertRaises(TooMany):
                    fewest(many, web)


if __name__ == "__main__":
    unittest.main()
