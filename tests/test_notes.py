import unittest

from beatmakers.errors import BadNote
from beatmakers.notes import read, shown
from helper import COUNTS, orders, some_voters

SIZES = (0, 1, 2, 3, 10, 59, 60)
# What a text may have: a line end, and the signs from the blank to ~ but one.
SIGNS = ["\n"] + [chr(number) for number in range(32, 127) if number != 37]


def written(many, voters):
    text = str(many) + ":"
    for voter in voters:
        text += " "
        for thing in voter:
            text += str(thing)
    return text


def tried_notes():
    for many in COUNTS:
        for size in SIZES:
            for step in (0, 1, 7, 101):
                yield many, some_voters(many, size, step)


class ShownTest(unittest.TestCase):
    def test_told_texts(self):
        self.assertEqual(shown(3, [(0, 1, 2), (2, 0, 1)]), "3: 012 201")
        self.assertEqual(shown(1, []), "1:")
        self.assertEqual(shown(6, []), "6:")
        self.assertEqual(shown(1, [(0,), (0,)]), "1: 0 0")
        self.assertEqual(shown(6, [(5, 4, 3, 2, 1, 0)]), "6: 543210")

    def test_arguments_by_name(self):
        self.assertEqual(shown(many=2, voters=[(1, 0)]), "2: 10")

    def test_voter_by_voter(self):
        for many, voters in tried_notes():
            told = shown(many, voters)
            self.assertIs(type(told), str)
            self.assertEqual(told, written(many, voters))

    def test_sixty_one_voters_are_not_refused(self):
        self.assertEqual(shown(2, [(1, 0)] * 61), "2:" + " 10" * 61)


class ReadTest(unittest.TestCase):
    def test_told_voters(self):
        self.assertEqual(read("3: 012 201"), (3, [(0, 1, 2), (2, 0, 1)]))
        self.assertEqual(read("1:"), (1, []))
        self.assertEqual(read("6:"), (6, []))
        self.assertEqual(read("1: 0"), (1, [(0,)]))
        self.assertEqual(read("6: 543210 543210"), (6, [(5, 4, 3, 2, 1, 0), (5, 4, 3, 2, 1, 0)]))

    def test_argument_by_name(self):
        self.assertEqual(read(text="2: 10"), (2, [(1, 0)]))

    def test_there_and_back(self):
        for many, voters in tried_notes():
            text = shown(many, voters)
            told = read(text)
            self.assertEqual(told, (many, voters))
            self.assertEqual(shown(*told), text)

    def test_kinds(self):
        for many, voters in tried_notes():
            told = read(shown(many, voters))
            self.assertIs(type(told), tuple)
            self.assertIs(type(told[0]), int)
            self.assertIs(type(told[1]), list)
            for voter in told[1]:
                self.assertIs(type(voter), tuple)
                self.assertTrue(all(type(thing) is int for thing in voter))

    def test_each_order(self):
        for many in COUNTS:
            for order in orders(many):
                self.assertEqual(read(written(many, [order])), (many, [order]))


class BadNoteTest(unittest.TestCase):
    def refused(self, text):
        with self.assertRaises(BadNote, msg=repr(text)):
            read(text)

    def refused_or_its_own(self, text):
        """A text with a sign changed may still be one that is written: then it is read as just that."""
        try:
            told = read(text)
        except BadNote:
            return False
        self.assertEqual(written(*told), text)
        self.assertIn(told[0], COUNTS)
        self.assertLessEqual(len(told[1]), 60)
        self.assertTrue(all(sorted(voter) == list(range(told[0])) for voter in told[1]), text)
        return True

    def test_told_refusals(self):
        for text in ("", " ", "\n", ":", " :", "3", "3 ", "012", "3 012", "3; 012", "x: 012", "-3: 012", "+3: 012"):
            self.refused(text)
        for text in ("3:012", "3: 012,201", "3: 012201", "3: 0 1 2", "3: 0-12", "3: -012", "3: +012", "3: a12"):
            self.refused(text)
        for text in ("3: 012: 201", "3:: 012", "3: 012:", "3:\n012", "3: 012\n201", "3: 3: 012", "(3, [])"):
            self.refused(text)

    def test_the_empty_text(self):
        self.refused("")

    def test_blanks_and_line_ends(self):
        for many, voters in tried_notes():
            text = shown(many, voters)
            for faulty in (text + " ", " " + text, text + "\n", "\n" + text, text + " \n", text + "\n ", text + "  "):
                self.refused(faulty)
            self.refused(text.replace(":", " :"))
            if voters:
                self.refused(text.replace(" ", "  ", 1))
                self.refused(text.replace(" ", "  "))
                self.refused(text.replace(" ", "\n"))
                self.refused(text.replace(" ", "", 1))
                self.refused(text + "\n" + text)

    def test_no_colon(self):
        for many, voters in tried_notes():
            self.refused(shown(many, voters).replace(":", ""))
            self.refused(shown(many, voters).replace(":", " "))

    def test_leading_noughts_and_signs(self):
        for many, voters in tried_notes():
            text = shown(many, voters)
            for before in ("0", "00", "+", "-", "+0", "1", "6"):
                self.refused(before + text)
            if voters:
                for before in ("0", "00", "+", "-"):
                    self.refused(text.replace(": ", ": " + before))

    def test_wrong_numbers_of_things(self):
        for many in ("0", "7", "8", "9", "10", "16", "60", "06", "-1", "12", "123456", "00", "1" + "0" * 400):
            self.refused(many + ":")
            self.refused(many + ": 0")
            self.refused(many + ": 012345")
        self.refused("0: ")
        self.refused("7: 0123456")
        self.refused("8: 01234567")
        self.refused("10: 0123456789")

    def test_the_number_of_other_voters(self):
        for many in COUNTS:
            for other in COUNTS:
                if other != many:
                    self.refused(written(many, some_voters(other, 1, 1)))
                    self.refused(written(many, some_voters(many, 3, 1) + some_voters(other, 1, 1)))

    def test_voters_that_are_no_order(self):
        for many in COUNTS:
            good = "".join([str(thing) for thing in range(many)])
            wrong = [good + "0", good + str(many), good[:-1], good[1:], good[:-1] + str(many), good[:-1] + "9", good * 2]
            wrong += ["0" * (many + 1), str(many) * many]
            if many > 1:
                wrong += ["0" * many, good[:-1] + "0", "0" + good[:-1]]
            for voter in wrong:
                self.refused(f"{many}: {voter}")
                self.refused(f"{many}: {good} {voter}")
                self.refused(f"{many}: {voter} {good}")
                self.refused(f"{many}:" + f" {good}" * 58 + f" {voter} {good}")

    def test_more_than_sixty_voters(self):
        for many in COUNTS:
            voters = some_voters(many, 60, 7)
            self.assertEqual(read(written(many, voters)), (many, voters))
            for size in (61, 62, 70, 120):
                self.refused(written(many, some_voters(many, size, 7)))

    def test_long_texts(self):
        self.refused("1:" + " 0" * 249)
        self.refused("9" * 500)
        self.refused(" " * 500)
        self.refused("6: " + "0" * 497)

    def test_a_sign_put_in(self):
        for text in ("1:", "1: 0", "2: 01", "3: 012 201", "6: 012345"):
            for place in range(len(text) + 1):
                for sign in SIGNS:
                    self.refused(text[:place] + sign + text[place:])

    def test_a_sign_taken_out(self):
        for text in ("1: 0", "2: 01", "3: 012 201", "6: 012345 543210", "6:"):
            for place in range(len(text)):
                self.refused(text[:place] + text[place + 1:])

    def test_a_sign_changed(self):
        for text in ("1: 0", "2: 01", "3: 012 201", "6: 012345"):
            for place in range(len(text)):
                for sign in SIGNS:
                    if sign != text[place]:
                        self.refused(text[:place] + sign + text[place + 1:])

    def test_the_number_alone_changed(self):
        for many in COUNTS:
            for sign in SIGNS:
                self.assertEqual(self.refused_or_its_own(sign + ":"), sign in "123456")
                self.assertEqual(self.refused_or_its_own(f"{many}" + sign), sign == ":")

    def test_two_signs_changed_about(self):
        for text in ("2: 01 10", "3: 012 201", "4: 0123 3210"):
            for one in range(len(text)):
                for other in range(one):
                    signs = list(text)
                    signs[one], signs[other] = signs[other], signs[one]
                    self.refused_or_its_own("".join(signs))

    def test_all_short_texts(self):
        kept = [text for text in short_texts("013: \n", 5) if self.refused_or_its_own(text)]
        self.assertEqual(kept, ["1:", "3:", "1: 0"])


def short_texts(signs, most):
    made = [""]
    longest = [""]
    for size in range(most):
        longest = [text + sign for text in longest for sign in signs]
        made += longest
    return made


if __name__ == "__main__":
    unittest.main()
