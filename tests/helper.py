"""What the tests share: orders, voters and webs made step by step, without chance."""

from itertools import combinations, permutations

COUNTS = range(1, 7)
BAD_COUNTS = (0, -1, -6, 7, 8, 60, 10 ** 6, 10 ** 30, -(10 ** 30), 10 ** 5000)


def orders(many):
    """All orders, in the order of tuples."""
    return list(permutations(range(many)))


def some_voters(many, size, step):
    """So many voters, spread over all orders; with few orders or step 0 some of them twice."""
    every = orders(many)
    return [every[(step * turn + turn // 3) % len(every)] for turn in range(size)]


def pairs(many):
    return list(combinations(range(many), 2))


def web_by_number(many, number):
    """One web for each number below 3 ** len(pairs(many)), the beats in ever other orders."""
    rest = number
    web = []
    for one, other in pairs(many):
        rest, choice = divmod(rest, 3)
        if choice == 1:
            web.append((one, other))
        elif choice == 2:
            web.append((other, one))
    return turned(web, number)


def full_web_by_number(many, number):
    """One web in which each two things have a beat for each number below 2 ** len(pairs(many))."""
    rest = number
    web = []
    for one, other in pairs(many):
        rest, choice = divmod(rest, 2)
        web.append((one, other) if choice else (other, one))
    return turned(web, number)


def turned(web, number):
    if not web:
        return web
    cut = number % len(web)
    moved = web[cut:] + web[:cut]
    return moved[::-1] if number % 2 else moved


def spread(total, most):
    """All numbers below total, or at most so many of them, the first and the last among them."""
    step = max(1, total // most)
    while step % 2 == 0 or step % 3 == 0:  # else some two things would have the same beat in all webs
        step += 1
    return sorted(set(range(0, total, step)) | {total - 1})


def webs(many, most=800):
    made = [web_by_number(many, number) for number in spread(3 ** len(pairs(many)), most)]
    made += [full_web_by_number(many, number) for number in spread(2 ** len(pairs(many)), most // 2)]
    return made


def ring_webs(many):
    """For each size of ring webs with just this one ring, through things in rising and in other rows."""
    made = []
    for size in range(3, many + 1):
        for row in spread_rows(many, size):
            made.append((size, list(zip(row, row[1:] + row[:1]))))
    return made


def spread_rows(many, size):
    rows = list(permutations(range(many), size))
    return [rows[number] for number in spread(len(rows), 20)]
