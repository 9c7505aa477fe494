"""Who is liked more by more voters: leads, and the web of all beats."""

from beatmakers.checks import check_voters


def lead(many, voters, one, other):
    check_voters(many, voters)
    return lead_among(voters, one, other)


def web_of(many, voters):
    check_voters(many, voters)
    web = []
    for one in range(many):
        for other in range(many):
            if one != other and lead_among(voters, one, other) > 0:
                web.append((one, other))
    return web


# Apart from lead, so that a whole web checks its voters only once.
def lead_among(voters, one, other):
    ahead = [voter for voter in voters if voter.index(one) < voter.index(other)]
    behind = len(voters) - len(ahead)
    return len(ahead) - behind
