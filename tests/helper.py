"""What the tests share: orders, voters and webs made step by step, without chance."""

from itertools import combinations, permutations

COUNTS = range(1, 7)
BAD_COUNTS = (0, -1, -6, 7, 8, 60, 10 ** 6, 10 ** 30, -(10 ** 30), 10 ** 5000)


def orders(many):
    """All orders, in the order of tuples."""
    return list(permutations(range(many)))


def some_voters(many, size, step):
    """So many voters, spread over all orders; with few orders or step 0 some of them twice."""
    every = orders(many)
    return [every[(step * turn + turn // 3) % len(every)] for turn in range(size)]


def pairs(many):
    return list(combinations(range(many), 2))


def web_by_number(many, number):
    """One web for each number below 3 ** len(pairs(many)), the beats in ever other orders."""
    rest = number
    web = []
    for one, other in pairs(many):
        rest, choice = divmod(rest, 3)
        if choice == 1:
            web.append((one, other))
        elif choice == 2:
            web.append((other, one))
    return turned(web, number)


def full_web_by_number(many, number):
    """One web in which each two things have a beat for each number below 2 ** len(pairs(many))."""
    rest = number
    web = []
    for one, other in pairs(many):
        rest, choice = divmod(rest, 2)
        web.append((one, other) if choice else (other, one))
    return turned(web, number)


def turned(web, number):
    if not web:
        return web
    cut = number % len(web)
    moved = web[cut:] + web[:cut]
    return moved[::-1] if number % 2 else moved


def spread(total, most):
    """All numbers below total, or at most so many of them, the first and the last among them."""
    step = max(1, total // most)
    while step % 2 == 0 or step % 3 == 0:  # else some two things would have the same beat in all webs
        step += 1
    return sorted(set(range(0, total, step)) | {total - 1})


def webs(many, most=800):
    made = [web_by_number(many, number) for number in spread(3 ** len(pairs(many)), most)]
    made += [full_web_by_number(many, number) for number in spread(2 ** len(pairs(many)), most // 2)]
    return made


def ring_webs(many):
    """For each size of ring webs with just this one ring, through things in rising and in other rows."""
    made = []
    for size in range(3, many + 1):
        for row in spread_rows(many, size):
            made.append((size, list(zip(row, row[1:] + row[:1]))))
    return made


def spread_rows(many, size):
    rows = list(permutations(range(many), size))
    return [rows[number] for number in spread(len(rows), 20)]


def counted_lead(voters, one, other):
    total = 0
    for voter in voters:
        places = {thing: place for place, thing in enumerate(voter)}
        total += 1 if places[one] < places[other] else -1
    return total


def counted_web(many, voters):
    """All beats, rising."""
    return [beat for beat in permutations(range(many), 2) if counted_lead(voters, *beat) > 0]


def faulty_voters(many):
    """Rows that are no order: a thing twice, one left out, one too many, one that isn't there."""
    good = tuple(range(many))
    rows = [(), good[:-1], good[1:], good + (many,), good + (0,), good + (many - 1,), good + good]
    rows += [good[:-1] + (wrong,) for wrong in (many, many + 1, -1, -many, 10 ** 30, 10 ** 5000)]
    rows += [(wrong,) + good[1:] for wrong in (many, -1)]
    if many > 1:
        rows += [(0,) + good[:-1], good[:-1] + (0,), tuple(thing + 1 for thing in good), (0,) * many]
    return [row for row in rows if sorted(row) != list(good)]


def is_ring(web, row):
    return all(beat in web for beat in zip(row, row[1:] + row[:1]))


def is_kept(web, order):
    places = {thing: place for place, thing in enumerate(order)}
    return all(places[one] < places[other] for one, other in web)


def good_webs(many):
    """The empty web, some of a few beats, and some in which each two things have a beat."""
    total = len(pairs(many))
    numbers = (0, 3 ** total // 2, 3 ** total // 3, 3 ** total - 1)
    return [web_by_number(many, number) for number in numbers] + [full_web_by_number(many, 2 ** total // 3)]


def faulty_webs(many):
    """Webs with a thing that isn't there, a thing and itself, a beat twice or both ways round."""
    made = []
    for web in good_webs(many):
        wrong = [(0, many), (many, 0), (-1, 0), (0, -1), (many, many + 1), (0, 10 ** 30), (10 ** 5000, 0)]
        wrong += [(0, 0), (many - 1, many - 1)]
        wrong += web[:1] + web[-1:] + [(other, one) for one, other in web[:1] + web[-1:]]
        for beat in wrong:
            made += [web + [beat], [beat] + web]
    return made
