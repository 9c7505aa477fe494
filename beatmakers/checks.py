"""What is refused of numbers of things, voters and webs, in one place for all that take them.

No refusal shows the faulty value: a number may have more figures than Python is willing to write.
"""

from beatmakers.errors import BadCount, BadVoter, BadWeb

MOST_THINGS = 6


def check_count(many):
    if many < 1 or many > MOST_THINGS:
        raise BadCount(f"the number of things is not from 1 to {MOST_THINGS}")


# The number comes first: a voter can only be held against a number that is right.
def check_voters(many, voters):
    check_count(many)
    things = list(range(many))
    for voter in voters:
        if sorted(voter) != things:
            raise BadVoter("a voter is no order of all things")


# The number comes first here too, for the same reason.
def check_web(many, web):
    check_count(many)
    seen = {}
    for one, other in web:
        if not (0 <= one < many and 0 <= other < many):
            raise BadWeb("a beat has a thing that is not there")
        if one == other:
            raise BadWeb("a beat is of a thing and itself")
        if (one, other) in seen:
            raise BadWeb("a beat is there twice")
        if (other, one) in seen:
            raise BadWeb("a beat is there both ways round")
        seen[(one, other)] = True
