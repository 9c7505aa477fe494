"""Voters written as a text, and read from one."""

from beatmakers.checks import check_voters
from beatmakers.errors import BadCount, BadNote, BadVoter

# Things go up to five; six is here for the number of things.
FIGURES = "0123456"
MOST_VOTERS = 60


def shown(many, voters):
    check_voters(many, voters)
    return " ".join([f"{many}:"] + [figures_of(voter) for voter in voters])


def figures_of(voter):
    return "".join([str(thing) for thing in voter])


def read(text):
    parts = text.split(" ")
    many = number_of_things(parts[0])
    voters = [voter_of(part) for part in parts[1:]]
    if len(voters) > MOST_VOTERS:
        raise BadNote(f"there are more than {MOST_VOTERS} voters")
    try:
        check_voters(many, voters)
    except BadCount:
        raise BadNote("the number of things is not right") from None
    except BadVoter:
        raise BadNote("a voter is no order of all things") from None
    return (many, voters)


# A sign that is no figure comes to minus one here and in voter_of, which the checks refuse.
def number_of_things(head):
    if len(head) != 2 or head[1] != ":":
        raise BadNote("there is not one figure and a colon at the beginning")
    return FIGURES.find(head[0])


def voter_of(part):
    return tuple([FIGURES.find(sign) for sign in part])
