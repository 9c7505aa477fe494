"""Whether one voter more turns the web of some voters into a wished one."""

from beatmakers.checks import check_voters, check_web
from beatmakers.making import pairs_of, wish_of
from beatmakers.rings import ordered, ring
from beatmakers.voters import lead_among


# The voters are looked at first: BadVoter is due ahead of BadWeb.
def one_more(many, voters, web):
    check_voters(many, voters)
    check_web(many, web)
    binding = []
    for one, other in pairs_of(many):
        now = lead_among(voters, one, other)
        wish = wish_of(web, one, other)
        ahead_will_do = sign_of(now + 1) == wish
        behind_will_do = sign_of(now - 1) == wish
        if not ahead_will_do and not behind_will_do:
            return ("out", (one, other))
        if not behind_will_do:
            binding.append((one, other))
        if not ahead_will_do:
            binding.append((other, one))
    return order_or_ring(many, binding)


def order_or_ring(many, binding):
    order = ordered(many, binding)
    if order is None:
        return ("ring", ring(many, binding))
    return ("voter", order)


def sign_of(number):
    if number > 0:
        return 1
    if number < 0:
        return -1
    return 0
