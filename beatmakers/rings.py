"""Rings of a web, and orders that keep it."""

from beatmakers.checks import check_web


def ring(many, web):
    check_web(many, web)
    best = None
    for start in range(many):
        found = ring_from(web, start)
        if found is not None and (best is None or len(found) < len(best)):
            best = found
    return best


# All rows grow by one thing at a time, so the first one that comes back to the start is as short as any.
# A thing that was reached before is not reached again: a later row to it is no shorter.
def ring_from(web, start):
    rows = [[start]]
    reached = {start: True}
    while len(rows) > 0:
        longer = []
        for row in rows:
            for other in beaten_by(web, row[-1]):
                if other == start:
                    return row
                if other not in reached:
                    reached[other] = True
                    longer.append(row + [other])
        rows = longer
    return None


def beaten_by(web, thing):
    return [other for one, other in web if one == thing]


# Taking an unbeaten thing never spoils the rest, so the lowest one each time gives the first order of all.
def ordered(many, web):
    check_web(many, web)
    order = []
    left = list(range(many))
    while len(left) > 0:
        thing = first_unbeaten(web, left)
        if thing is None:
            return None
        order.append(thing)
        left.remove(thing)
    return tuple(order)


def first_unbeaten(web, left):
    beaten = [other for one, other in web if one in left]
    for thing in left:
        if thing not in beaten:
            return thing
    return None


def keeps(many, web, order):
    check_web(many, web)
    return all([order.index(one) < order.index(other) for one, other in web])
