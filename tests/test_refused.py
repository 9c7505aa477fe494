"""What every call refuses, and which refusal comes first where several are due."""

import unittest

from beatmakers.errors import BadCount, BadVoter, BadWeb, TooMany
from beatmakers.making import fewest, makers, makes
from beatmakers.notes import shown
from beatmakers.one_more import one_more
from beatmakers.rings import keeps, ordered, ring
from beatmakers.voters import lead, web_of
from helper import BAD_COUNTS, COUNTS, faulty_voters, faulty_webs, good_webs, orders, some_voters

# Each call with the number, voters and a web, of which it takes those that it has.
TAKE_VOTERS = {
    "lead": lambda many, voters, web: lead(many, voters, 0, 1),
    "web_of": lambda many, voters, web: web_of(many, voters),
    "shown": lambda many, voters, web: shown(many, voters),
}
TAKE_WEB = {
    "ring": lambda many, voters, web: ring(many, web),
    "ordered": lambda many, voters, web: ordered(many, web),
    "keeps": lambda many, voters, web: keeps(many, web, (0,)),
    "makers": lambda many, voters, web: makers(many, web),
    "fewest": lambda many, voters, web: fewest(many, web),
}
TAKE_BOTH = {"makes": makes, "one_more": one_more}
ALL = {**TAKE_VOTERS, **TAKE_WEB, **TAKE_BOTH}


def with_one_faulty(many, faulty):
    good = some_voters(many, 59, 7)
    return ([faulty], good + [faulty], [faulty] + good, good[:30] + [faulty] + good[30:])


class RefusedTest(unittest.TestCase):
    def refused(self, error, calls, many, voters, web):
        for name, call in calls.items():
            with self.assertRaises(error, msg=name) as taken:
                call(many, voters, web)
            self.assertIs(type(taken.exception), error, name)

    def test_bad_count(self):
        for many in BAD_COUNTS:
            self.refused(BadCount, ALL, many, [], [])
            self.refused(BadCount, ALL, many, [(0, 1)], [(0, 1)])

    def test_bad_count_where_all_else_is_right(self):
        self.refused(BadCount, ALL, 0, [()], [])
        self.refused(BadCount, ALL, 7, [tuple(range(7))], [(5, 6)])
        self.refused(BadCount, ALL, 8, [tuple(range(8))] * 60, [(7, 0), (0, 6)])

    def test_bad_voter(self):
        for many in COUNTS:
            for faulty in faulty_voters(many):
                for voters in with_one_faulty(many, faulty):
                    self.refused(BadVoter, TAKE_VOTERS, many, voters, [])
                    self.refused(BadVoter, TAKE_BOTH, many, voters, good_webs(many)[-1])

    def test_bad_web(self):
        for many in COUNTS:
            for web in faulty_webs(many):
                for voters in ([], some_voters(many, 3, 5), some_voters(many, 60, 5)):
                    self.refused(BadWeb, TAKE_BOTH, many, voters, web)
                self.refused(BadWeb, TAKE_WEB, many, [], web)

    def test_bad_count_ahead_of_bad_voter(self):
        for many in BAD_COUNTS:
            for voters in ([(0, 0)], [()], [(0, 1), (1,)], [(-1,)], [(10 ** 30,)]):
                self.refused(BadCount, TAKE_VOTERS, many, voters, [])
                self.refused(BadCount, TAKE_BOTH, many, voters, [])

    def test_bad_count_ahead_of_bad_web(self):
        for many in BAD_COUNTS:
            for web in ([(0, 0)], [(0, 1), (0, 1)], [(0, 1), (1, 0)], [(-1, 0)], [(0, 10 ** 30)]):
                self.refused(BadCount, TAKE_WEB, many, [], web)
                self.refused(BadCount, TAKE_BOTH, many, [], web)

    def test_bad_count_ahead_of_both(self):
        for many in BAD_COUNTS:
            for voters in ([(0, 0)], [()], [(0, 1), (1,)], [(-1,)]):
                for web in ([(0, 0)], [(0, 1), (0, 1)], [(0, 1), (1, 0)], [(-1, 0)]):
                    self.refused(BadCount, ALL, many, voters, web)

    def test_bad_voter_ahead_of_bad_web(self):
        for many in COUNTS:
            for faulty in faulty_voters(many):
                for web in faulty_webs(many):
                    self.refused(BadVoter, TAKE_BOTH, many, [faulty], web)
            for voters in with_one_faulty(many, (many,) * many):
                self.refused(BadVoter, TAKE_BOTH, many, voters, [(0, 0)])

    def test_too_many_behind_the_others(self):
        only = {"fewest": TAKE_WEB["fewest"]}
        for many in (5, 6):
            for web in good_webs(many):
                self.refused(TooMany, only, many, [], web)
            for web in faulty_webs(many):
                self.refused(BadWeb, only, many, [], web)
        for many in BAD_COUNTS:
            for web in ([], [(0, 1)], [(0, 0)], [(0, 1), (1, 0)]):
                self.refused(BadCount, only, many, [], web)

    def test_nothing_refused_where_all_is_well(self):
        for many in COUNTS:
            for size in (0, 1, 2, 59, 60):
                voters = some_voters(many, size, 7)
                web_of(many, voters)
                shown(many, voters)
                if many > 1:
                    lead(many, voters, many - 1, 0)
                for web in good_webs(many):
                    makes(many, voters, web)
                    one_more(many, voters, web)
            for web in good_webs(many):
                ring(many, web)
                ordered(many, web)
                makers(many, web)
                keeps(many, web, orders(many)[-1])
                if many < 5:
                    fewest(many, web)


if __name__ == "__main__":
    unittest.main()
