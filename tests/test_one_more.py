import unittest
from itertools import product

from beatmakers.making import makers
from beatmakers.one_more import one_more
from helper import (
    COUNTS,
    counted_lead,
    counted_web,
    full_web_by_number,
    is_kept,
    is_ring,
    orders,
    pairs,
    some_voters,
    spread,
    turned,
    webs,
)

SIZES = (0, 1, 2, 3, 4, 5, 8, 59, 60)


def wish_for(web, one, other):
    return 1 if (one, other) in web else -1 if (other, one) in web else 0


def sign(number):
    return (number > 0) - (number < 0)


def out_of_reach(lead, wish):
    """In the words of the document, of a lead and the sign that it is to have."""
    if wish == 0:
        return lead == 0 or lead > 1 or lead < -1
    return lead * wish < 0


def binding_beats(leads, web):
    """In the words of the document; leads by two things, the lower one first."""
    beats = []
    for (one, other), lead in leads.items():
        wish = wish_for(web, one, other)
        if wish == 1 and lead in (0, 1):
            beats.append((one, other))
        elif wish == -1 and lead in (0, -1):
            beats.append((other, one))
        elif wish == 0 and lead == 1:
            beats.append((other, one))
        elif wish == 0 and lead == -1:
            beats.append((one, other))
    return beats


def makes_with(leads, web, order):
    places = {thing: place for place, thing in enumerate(order)}
    for (one, other), lead in leads.items():
        moved = lead + (1 if places[one] < places[other] else -1)
        if sign(moved) != wish_for(web, one, other):
            return False
    return True


def first_voter(many, leads, web):
    """Held against all orders, in the order of tuples; None if none of them will do."""
    for order in orders(many):
        if makes_with(leads, web, order):
            return order
    return None


def first_out(leads, web):
    for (one, other), lead in leads.items():
        wish = wish_for(web, one, other)
        if wish not in (sign(lead + 1), sign(lead - 1)):
            return (one, other)
    return None


def leads_of(many, voters):
    return {pair: counted_lead(voters, *pair) for pair in pairs(many)}


def wishes_within_reach(many, voters, most):
    """Webs of which nothing is out of reach: one for each choice of up or down by one, or a spread of these."""
    leads = leads_of(many, voters)
    made = []
    for number in spread(2 ** len(leads), most):
        rest = number
        web = []
        for (one, other), lead in leads.items():
            rest, choice = divmod(rest, 2)
            wish = sign(lead + (1 if choice else -1))
            if wish:
                web.append((one, other) if wish > 0 else (other, one))
        made.append(turned(web, number))
    return made


def sixty_with_small_leads(many, number):
    """Voters and their contraries, and the voters of a few beats: leads of nought and two."""
    web = full_web_by_number(many, number)[:5]
    voters = makers(many, web)
    mirrored = some_voters(many, (60 - len(voters)) // 2, 7)
    return voters + mirrored + [order[::-1] for order in mirrored]


def tried_voters(many):
    made = [some_voters(many, size, step) for size in SIZES for step in (0, 1, 7, 101)]
    made += [sixty_with_small_leads(many, number) for number in (0, 5, 2 ** len(pairs(many)) - 1)]
    made += [voters + [tuple(range(many))[::-1]] for voters in (made[-1][:59], made[-2][:40], made[4] * 2)]
    return made


class OneMoreTest(unittest.TestCase):
    def held(self, many, voters, web):
        """Tells which of the three answers it was."""
        told = one_more(many, voters, web)
        said = (many, voters, web, told)
        self.assertIs(type(told), tuple)
        self.assertEqual(len(told), 2, said)
        leads = leads_of(many, voters)
        out = first_out(leads, web)
        order = first_voter(many, leads, web) if out is None else None
        if out is not None:
            self.assertEqual(told, ("out", out), said)
            self.assertIs(type(told[1]), tuple)
        elif order is not None:
            self.assertEqual(told, ("voter", order), said)
            self.assertIs(type(told[1]), tuple)
        else:
            self.assertEqual(told[0], "ring", said)
            self.held_ring(told[1], binding_beats(leads, web), said)
        return told[0]

    def held_ring(self, row, beats, said):
        self.assertIs(type(row), list)
        self.assertGreaterEqual(len(row), 3, said)
        self.assertEqual(len(set(row)), len(row), said)
        self.assertTrue(is_ring(beats, row), said)

    def test_told_voters(self):
        self.assertEqual(one_more(1, [], []), ("voter", (0,)))
        self.assertEqual(one_more(1, [(0,)] * 60, []), ("voter", (0,)))
        self.assertEqual(one_more(3, [(0, 1, 2)], []), ("voter", (2, 1, 0)))
        self.assertEqual(one_more(3, [(0, 1, 2)], [(0, 1)]), ("voter", (2, 0, 1)))
        self.assertEqual(one_more(3, [(2, 1, 0)] * 2, [(1, 0), (2, 0), (2, 1)]), ("voter", (0, 1, 2)))
        self.assertEqual(one_more(3, [], [(2, 0), (2, 1), (0, 1)]), ("voter", (2, 0, 1)))

    def test_told_out_of_reach(self):
        self.assertEqual(one_more(3, [], []), ("out", (0, 1)))
        self.assertEqual(one_more(3, [], [(1, 0), (2, 0)]), ("out", (1, 2)))
        self.assertEqual(one_more(3, [(0, 1, 2)], [(2, 1), (2, 0)]), ("out", (0, 2)))
        self.assertEqual(one_more(2, [(0, 1)] * 3, []), ("out", (0, 1)))
        self.assertEqual(one_more(2, [(1, 0)] * 3, []), ("out", (0, 1)))

    def test_told_rings(self):
        rings = ([0, 1, 2], [1, 2, 0], [2, 0, 1])
        kind, row = one_more(3, [], [(0, 1), (1, 2), (2, 0)])
        self.assertEqual(kind, "ring")
        self.assertIn(row, rings)
        # A tie binds too: 2, who trails 0 by one, is to come ahead of 0.
        kind, row = one_more(3, [(0, 1, 2)], [(0, 1), (1, 2)])
        self.assertEqual(kind, "ring")
        self.assertIn(row, rings)
        # Of ties alone.
        kind, row = one_more(3, [(0, 2, 1), (2, 1, 0), (1, 0, 2)], [])
        self.assertEqual(kind, "ring")
        self.assertIn(row, rings)

    def test_what_leaves_the_voter_free_is_in_no_ring(self):
        voters = makers(3, [(0, 1), (1, 2), (2, 0)])
        self.assertEqual(one_more(3, voters, [(0, 1), (1, 2), (2, 0)]), ("voter", (0, 1, 2)))

    def test_arguments_by_name(self):
        self.assertEqual(one_more(many=2, voters=[(0, 1)], web=[]), ("voter", (1, 0)))

    def test_all_webs_of_few_things(self):
        for many in range(1, 5):
            for voters in tried_voters(many):
                for web in webs(many, 800 if many < 4 else 80):
                    self.held(many, voters, web)

    def test_every_web_and_few_voters_of_four_things(self):
        for voters in ([], [(0, 1, 2, 3)], [(2, 0, 3, 1)], [(0, 1, 2, 3), (1, 3, 2, 0)], [(3, 1, 0, 2)] * 2):
            for web in webs(4):
                self.held(4, voters, web)

    def test_wishes_within_reach(self):
        for many in COUNTS:
            told = []
            for voters in tried_voters(many):
                for web in wishes_within_reach(many, voters, 24):
                    told.append(self.held(many, voters, web))
            self.assertEqual(set(told), {"voter"} if many < 3 else {"voter", "ring"})

    def test_one_or_two_wishes_out_of_reach(self):
        for many in range(2, 7):
            for voters in tried_voters(many):
                theirs = wishes_within_reach(many, voters, 2)[0]
                for place, (one, other) in enumerate(pairs(many)):
                    self.held_with_wishes(many, voters, theirs, one, other)
                    self.held_with_wishes(many, voters, theirs[:place] + theirs[place + 1:], one, other)

    def held_with_wishes(self, many, voters, web, one, other):
        rest = [beat for beat in web if sorted(beat) != [one, other]]
        for wish in ([], [(one, other)], [(other, one)]):
            self.held(many, voters, wish + rest)

    def test_more_things_and_any_wish(self):
        for many in (5, 6):
            for voters in tried_voters(many):
                for web in webs(many, 30) + [[], counted_web(many, voters)]:
                    self.held(many, voters, web)

    def test_webs_of_voters_with_one_more(self):
        """The voter who made the web, or an earlier one, is found again."""
        for many in COUNTS:
            for voters in tried_voters(many):
                for voter in some_voters(many, 5, 37):
                    web = counted_web(many, voters + [voter])[::-1]
                    kind, order = one_more(many, voters, web)
                    self.assertEqual(kind, "voter", (many, voters, web))
                    self.assertLessEqual(order, voter)
                    self.assertEqual(counted_web(many, voters + [order]), sorted(web))

    def test_long_rings(self):
        for many in range(3, 7):
            row = list(range(many))
            web = list(zip(row, row[1:] + row[:1]))
            # Things that are not next to each other lead by two, which leaves the voter free.
            far = [pair for pair in pairs(many) if pair not in web and pair[::-1] not in web]
            voters = makers(many, far)
            self.assertEqual(self.held(many, voters, web + far), "ring")
            self.assertEqual(sorted(one_more(many, voters, web + far)[1]), row)

    def test_sixty_one_voters_are_not_refused(self):
        self.assertEqual(one_more(2, [(0, 1)] * 31 + [(1, 0)] * 30, []), ("voter", (1, 0)))


def voters_with_lead(many, one, other, lead):
    """Voters of whom the one leads over the other by so much; with a lead of nought there are two."""
    rest = [thing for thing in range(many) if thing not in (one, other)]
    ahead = tuple(rest + [one, other])
    behind = tuple([other, one] + rest[::-1])
    return [ahead] * (2 + lead // 2 + lead % 2) + [behind] * (2 - lead // 2)


class WishTest(unittest.TestCase):
    """Each wish with each lead from below minus one to above one."""

    ANSWERS = {  # by lead and wish: the way round that will do, both of them, or none
        (-3, 1): "", (-2, 1): "", (-1, 1): "", (0, 1): "ahead", (1, 1): "ahead", (2, 1): "both", (3, 1): "both",
        (-3, 0): "", (-2, 0): "", (-1, 0): "ahead", (0, 0): "", (1, 0): "behind", (2, 0): "", (3, 0): "",
        (-3, -1): "both", (-2, -1): "both", (-1, -1): "behind", (0, -1): "behind",
        (1, -1): "", (2, -1): "", (3, -1): "",
    }

    def test_voters_have_the_lead(self):
        for many in range(2, 7):
            for (one, other), lead in product(pairs(many), range(-3, 4)):
                self.assertEqual(counted_lead(voters_with_lead(many, one, other, lead), one, other), lead)

    def test_two_things(self):
        told = {"ahead": ("voter", (0, 1)), "behind": ("voter", (1, 0)), "both": ("voter", (0, 1)), "": ("out", (0, 1))}
        webs_by_wish = {1: [(0, 1)], 0: [], -1: [(1, 0)]}
        for (lead, wish), answer in self.ANSWERS.items():
            voters = voters_with_lead(2, 0, 1, lead)
            self.assertEqual(one_more(2, voters, webs_by_wish[wish]), told[answer], (lead, wish))
            mirrored = [voter[::-1] for voter in voters]
            told_mirrored = told[{"ahead": "behind", "behind": "ahead"}.get(answer, answer)]
            mirrored_web = [beat[::-1] for beat in webs_by_wish[wish]]
            self.assertEqual(one_more(2, mirrored, mirrored_web), told_mirrored, (lead, wish))

    def test_two_among_more_things(self):
        for many in range(2, 7):
            for (one, other), ((lead, wish), answer) in product(pairs(many), self.ANSWERS.items()):
                voters = voters_with_lead(many, one, other, lead)
                for web in wishes_within_reach(many, voters, 4):
                    rest = [beat for beat in web if sorted(beat) != [one, other]]
                    wished = rest + ([(one, other)] if wish == 1 else [(other, one)] if wish == -1 else [])
                    kind, value = one_more(many, voters, wished)
                    said = (many, voters, wished, kind, value)
                    if answer == "":
                        self.assertEqual((kind, value), ("out", (one, other)), said)
                    else:
                        self.assertIn(kind, ("voter", "ring"), said)
                    if kind == "voter" and answer != "both":
                        self.assertEqual(value.index(one) < value.index(other), answer == "ahead", said)

    def test_the_words_of_the_document(self):
        """The oracles of this file, held against the document's words."""
        for (lead, wish), answer in self.ANSWERS.items():
            self.assertEqual(out_of_reach(lead, wish), answer == "")
            self.assertEqual(wish not in (sign(lead + 1), sign(lead - 1)), answer == "")
            if answer:
                web = [(0, 1)] if wish == 1 else [(1, 0)] if wish == -1 else []
                bound = {"ahead": [(0, 1)], "behind": [(1, 0)], "both": []}[answer]
                self.assertEqual(binding_beats({(0, 1): lead}, web), bound)

    def test_a_voter_will_do_just_where_he_keeps_what_binds(self):
        for many in range(1, 5):
            for voters in tried_voters(many):
                leads = leads_of(many, voters)
                for web in wishes_within_reach(many, voters, 20):
                    beats = binding_beats(leads, web)
                    for order in orders(many):
                        self.assertEqual(makes_with(leads, web, order), is_kept(beats, order))


if __name__ == "__main__":
    unittest.main()
