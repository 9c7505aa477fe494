"""Voters that make a web: two for each beat, and as few as any."""

from beatmakers.checks import check_web
from beatmakers.errors import TooMany
from beatmakers.voters import lead_among, web_of

MOST_THINGS_FOR_FEWEST = 4


def makers(many, web):
    check_web(many, web)
    voters = []
    for one, other in web:
        rest = [thing for thing in range(many) if thing != one and thing != other]
        voters.append(tuple([one, other] + rest))
        voters.append(tuple(rest[::-1] + [one, other]))
    return voters


# web_of refuses voters, and comes first: BadVoter is due ahead of BadWeb.
def makes(many, voters, web):
    beats = web_of(many, voters)
    check_web(many, web)
    return beats == sorted(web)


# This ends, for the voters of makers are found at the latest.
def fewest(many, web):
    check_web(many, web)
    if many > MOST_THINGS_FOR_FEWEST:
        raise TooMany(f"the fewest voters are told of at most {MOST_THINGS_FOR_FEWEST} things")
    pairs = pairs_of(many)
    wishes = [wish_of(web, one, other) for one, other in pairs]
    orders = orders_of(list(range(many)))
    steps = [steps_of(order, pairs) for order in orders]
    size = 0
    places = None
    while places is None:
        places = places_of_voters(steps, wishes, [0 for wish in wishes], size, 0)
        size += 1
    return [orders[place] for place in places]


# Which voter comes first makes no lead another one, so each voter is sought from the last one's place on alone.
def places_of_voters(steps, wishes, leads, left, first):
    if not in_reach(wishes, leads, left):
        return None
    if left == 0:
        return []
    for place in range(first, len(steps)):
        moved = [now + step for now, step in zip(leads, steps[place])]
        rest = places_of_voters(steps, wishes, moved, left - 1, place)
        if rest is not None:
            return [place] + rest
    return None


# Each voter that is left moves each lead by one, up or down. With none left this asks whether the web is made.
def in_reach(wishes, leads, left):
    for wish, now in zip(wishes, leads):
        if wish == 0 and (abs(now) > left or (now + left) % 2 != 0):
            return False
        if wish != 0 and now * wish + left < 1:
            return False
    return True


def pairs_of(many):
    pairs = []
    for one in range(many):
        pairs.extend([(one, other) for other in range(one + 1, many)])
    return pairs


# The sign that the lead of one over other is to have.
def wish_of(web, one, other):
    if (one, other) in web:
        return 1
    if (other, one) in web:
        return -1
    return 0


def orders_of(things):
    if len(things) == 0:
        return [()]
    orders = []
    for first in things:
        rest = [thing for thing in things if thing != first]
        orders.extend([(first,) + order for order in orders_of(rest)])
    return orders


def steps_of(order, pairs):
    return [lead_among([order], one, other) for one, other in pairs]
