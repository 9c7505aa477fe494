import unittest
from copy import deepcopy
from itertools import permutations

from beatmakers.errors import BadCount, BadVoter
from beatmakers.voters import lead, web_of
from helper import BAD_COUNTS, COUNTS, counted_lead, faulty_voters, orders, some_voters

SIZES = (0, 1, 2, 3, 4, 5, 7, 10, 59, 60)


def spread_voters():
    for many in COUNTS:
        for size in SIZES:
            for step in (0, 1, 7, 101):
                yield many, some_voters(many, size, step)


class LeadTest(unittest.TestCase):
    def test_told_leads(self):
        voters = [(0, 1, 2), (1, 2, 0), (2, 0, 1), (0, 2, 1)]
        self.assertEqual(lead(3, voters, 0, 1), 2)
        self.assertEqual(lead(3, voters, 1, 0), -2)
        self.assertEqual(lead(3, voters, 1, 2), 0)
        self.assertEqual(lead(3, voters, 2, 0), 0)

    def test_arguments_by_name(self):
        self.assertEqual(lead(many=2, voters=[(1, 0)], one=1, other=0), 1)

    def test_no_voters_no_lead(self):
        for many in COUNTS:
            for one, other in permutations(range(many), 2):
                self.assertEqual(lead(many, [], one, other), 0)

    def test_lead_is_counted_voter_by_voter(self):
        for many, voters in spread_voters():
            for one, other in permutations(range(many), 2):
                told = lead(many, voters, one, other)
                self.assertIs(type(told), int)
                self.assertEqual(told, counted_lead(voters, one, other), (many, voters, one, other))

    def test_each_voter_counts_also_where_he_is_there_again(self):
        for many in range(2, 7):
            voter = tuple(range(many))
            self.assertEqual(lead(many, [voter] * 60, 0, many - 1), 60)
            self.assertEqual(lead(many, [voter] * 60, many - 1, 0), -60)

    def test_more_than_sixty_voters_are_not_refused(self):
        self.assertEqual(lead(2, [(0, 1)] * 61, 1, 0), -61)


class WebOfTest(unittest.TestCase):
    def test_told_webs(self):
        self.assertEqual(web_of(3, [(0, 1, 2), (1, 2, 0), (2, 0, 1)]), [(0, 1), (1, 2), (2, 0)])
        self.assertEqual(web_of(3, [(2, 1, 0)]), [(1, 0), (2, 0), (2, 1)])
        self.assertEqual(web_of(3, [(0, 1, 2), (2, 1, 0)]), [])
        self.assertEqual(web_of(3, [(0, 1, 2), (2, 0, 1)]), [(0, 1)])
        self.assertEqual(web_of(2, [(1, 0), (1, 0), (0, 1)]), [(1, 0)])
        self.assertEqual(web_of(1, [(0,), (0,)]), [])

    def test_arguments_by_name(self):
        self.assertEqual(web_of(many=2, voters=[(1, 0)]), [(1, 0)])

    def test_no_voters_no_beats(self):
        for many in COUNTS:
            self.assertEqual(web_of(many, []), [])

    def test_beats_are_all_leads_above_nought_rising(self):
        for many, voters in spread_voters():
            told = web_of(many, voters)
            beats = [pair for pair in permutations(range(many), 2) if counted_lead(voters, *pair) > 0]
            self.assertIs(type(told), list)
            self.assertTrue(all(type(beat) is tuple for beat in told))
            self.assertEqual(told, sorted(beats), (many, voters))

    def test_one_voter_beats_as_he_likes(self):
        for many in COUNTS:
            for voter in orders(many):
                beats = [(one, other) for place, one in enumerate(voter) for other in voter[place + 1:]]
                self.assertEqual(web_of(many, [voter]), sorted(beats))

    def test_more_than_sixty_voters_are_not_refused(self):
        self.assertEqual(web_of(2, [(0, 1)] * 31 + [(1, 0)] * 30), [(0, 1)])


class RefusedTest(unittest.TestCase):
    def refused(self, error, many, voters):
        with self.assertRaises(error):
            web_of(many, voters)
        with self.assertRaises(error):
            lead(many, voters, 0, 1)

    def test_bad_count(self):
        for many in BAD_COUNTS:
            self.refused(BadCount, many, [])
            self.refused(BadCount, many, [(0, 1)])

    def test_seven_things_with_right_voters_are_refused(self):
        self.refused(BadCount, 7, [tuple(range(7))])

    def test_no_things_with_right_voters_are_refused(self):
        self.refused(BadCount, 0, [()])

    def test_bad_voter_first_last_or_amid_the_others(self):
        for many in COUNTS:
            for faulty in faulty_voters(many):
                for size in (0, 1, 2, 5, 59):
                    good = some_voters(many, size, 5)
                    for place in sorted({0, size // 2, size}):
                        self.refused(BadVoter, many, good[:place] + [faulty] + good[place:])

    def test_voters_of_another_number_of_things(self):
        for many in COUNTS:
            for other in COUNTS:
                if other != many:
                    self.refused(BadVoter, many, some_voters(other, 3, 1))

    def test_bad_count_ahead_of_bad_voter(self):
        for many in BAD_COUNTS:
            for voters in ([(0, 0)], [(0, 1, 3)], [(0, 1), (1,)], [(-1,)], [(10 ** 30,)]):
                self.refused(BadCount, many, voters)


class OwnTest(unittest.TestCase):
    def test_handed_voters_stay_as_they_are(self):
        for many, voters in spread_voters():
            before = deepcopy(voters)
            web_of(many, voters)
            for one, other in permutations(range(many), 2):
                lead(many, voters, one, other)
            self.assertEqual(voters, before)

    def test_refused_voters_stay_as_they_are(self):
        voters = [(1, 0), (0, 0), (0, 1)]
        with self.assertRaises(BadVoter):
            web_of(2, voters)
        with self.assertRaises(BadVoter):
            lead(2, voters, 0, 1)
        self.assertEqual(voters, [(1, 0), (0, 0), (0, 1)])

    def test_told_webs_may_be_changed(self):
        for voters in ([], [(0, 1, 2)]):
            told = web_of(3, voters)
            expected = list(told)
            told.append("mine")
            told.reverse()
            again = web_of(3, voters)
            self.assertEqual(again, expected)
            self.assertIsNot(again, told)

    def test_handed_voters_may_be_changed_later(self):
        voters = [(0, 1, 2)]
        told = web_of(3, voters)
        voters[0] = (2, 1, 0)
        self.assertEqual(told, [(0, 1), (0, 2), (1, 2)])
        self.assertEqual(web_of(3, voters), [(1, 0), (2, 0), (2, 1)])
        voters.append((0, 1, 2))
        self.assertEqual(web_of(3, voters), [])
        self.assertEqual(lead(3, voters, 0, 1), 0)
        voters.clear()
        self.assertEqual(told, [(0, 1), (0, 2), (1, 2)])


if __name__ == "__main__":
    unittest.main()
