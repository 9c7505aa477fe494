"""Nothing handed in is changed or kept; what is told is the asker's own; no clock, chance or files."""

import ast
import unittest
from copy import deepcopy
from pathlib import Path

import beatmakers
from beatmakers.errors import BeatError
from beatmakers.making import fewest, makers, makes
from beatmakers.notes import read, shown
from beatmakers.one_more import one_more
from beatmakers.rings import keeps, ordered, ring
from beatmakers.voters import lead, web_of
from helper import COUNTS, faulty_voters, faulty_webs, some_voters, webs

PACKAGE = Path(beatmakers.__file__).parent
FORBIDDEN = {"open", "input", "print", "exec", "eval", "compile", "hash", "id", "__import__", "globals", "vars"}


def asked(many, voters, web):
    """All calls on the same lists, by name."""
    calls = {
        "web_of": lambda: web_of(many, voters),
        "lead": lambda: lead(many, voters, 0, many - 1) if many > 1 else 0,
        "ring": lambda: ring(many, web),
        "ordered": lambda: ordered(many, web),
        "keeps": lambda: keeps(many, web, tuple(range(many))),
        "makers": lambda: makers(many, web),
        "makes": lambda: makes(many, voters, web),
        "one_more": lambda: one_more(many, voters, web),
        "shown": lambda: shown(many, voters),
        "read": lambda: read("3: 012 201 012"),
    }
    if many < 5:
        calls["fewest"] = lambda: fewest(many, web)
    return calls


def lists_in(value):
    if isinstance(value, list):
        return [value] + [found for part in value for found in lists_in(part)]
    if isinstance(value, tuple):
        return [found for part in value for found in lists_in(part)]
    return []


def tried():
    for many in COUNTS:
        for size in (0, 1, 3, 60):
            voters = some_voters(many, size, 7)
            for web in webs(many, 8) + [web_of(many, voters)]:
                yield many, voters, web
    yield 3, [], [(0, 1), (1, 2), (2, 0)]  # a ring, of ring and one_more


class OwnTest(unittest.TestCase):
    def test_a_told_ring_is_tried(self):
        self.assertTrue(any(one_more(*case)[0] == "ring" for case in tried()))

    def test_handed_lists_stay_as_they_are(self):
        for many, voters, web in tried():
            before = deepcopy((voters, web))
            for name, call in asked(many, voters, web).items():
                call()
                self.assertEqual((voters, web), before, name)

    def test_refused_lists_stay_as_they_are(self):
        for many in COUNTS:
            good = some_voters(many, 3, 7)
            cases = [(good + [voter] + good, []) for voter in faulty_voters(many)]
            cases += [(good[::-1], web[::-1]) for web in faulty_webs(many)]
            for voters, web in cases:
                before = deepcopy((voters, web))
                for name, call in asked(many, voters, web).items():
                    try:
                        call()
                    except BeatError:
                        pass
                    self.assertEqual((voters, web), before, name)

    def test_told_lists_may_be_changed(self):
        for many, voters, web in tried():
            for name, call in asked(many, voters, web).items():
                told = call()
                expected = deepcopy(told)
                for found in lists_in(told):
                    found.append("mine")
                    found.reverse()
                again = call()
                self.assertEqual(again, expected, name)
                for found in lists_in(again):
                    found.clear()
                self.assertEqual(call(), expected, name)

    def test_no_two_lists_are_one(self):
        for many, voters, web in tried():
            for name, call in asked(many, voters, web).items():
                found = lists_in(call()) + lists_in(call()) + [voters, web]
                for place, one in enumerate(found):
                    self.assertFalse(any(one is other for other in found[:place]), name)

    def test_told_lists_apart_from_the_handed_ones(self):
        for many, voters, web in tried():
            for name, call in asked(many, voters, web).items():
                before = deepcopy((voters, web))
                for found in lists_in(call()):
                    found.append("mine")
                self.assertEqual((voters, web), before, name)

    def test_handed_lists_may_be_changed_later(self):
        for many, voters, web in tried():
            mine, my_web = list(voters), list(web)
            told = {name: call() for name, call in asked(many, mine, my_web).items()}
            expected = deepcopy(told)
            mine.reverse()
            mine.append(tuple(range(many))[::-1])
            my_web.clear()
            self.assertEqual(told, expected)
            after = {name: call() for name, call in asked(many, mine, my_web).items()}
            fresh = {name: call() for name, call in asked(many, deepcopy(mine), []).items()}
            self.assertEqual(after, fresh)
            self.assertEqual({name: call() for name, call in asked(many, voters, web).items()}, expected)

    def test_a_handed_order_stays_as_it_is(self):
        order = (2, 0, 1)
        self.assertIs(keeps(3, [(2, 1)], order), True)
        self.assertEqual(order, (2, 0, 1))


class SourceTest(unittest.TestCase):
    def trees(self):
        files = sorted(PACKAGE.glob("*.py"))
        self.assertGreaterEqual(len(files), 8)
        return [(file.name, ast.parse(file.read_text())) for file in files]

    def test_the_package_draws_from_itself_alone(self):
        for name, tree in self.trees():
            for node in ast.walk(tree):
                self.assertNotIsInstance(node, ast.Import, name)
                if isinstance(node, ast.ImportFrom):
                    self.assertEqual(node.level, 0, name)
                    self.assertTrue(node.module.startswith("beatmakers."), (name, node.module))

    def test_no_clock_chance_or_files_by_names_of_python(self):
        for name, tree in self.trees():
            used = {node.id for node in ast.walk(tree) if isinstance(node, ast.Name)}
            self.assertEqual(used & FORBIDDEN, set(), name)


if __name__ == "__main__":
    unittest.main()
