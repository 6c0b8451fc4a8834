"""Points 1, 3, 20 and 21 and the interface's part on deeds."""

import itertools
import unittest

from earmarks.deeds import fits, read_deed, written
from earmarks.errors import BadDeed, BadLine

GREATEST = 999999999
GREAT = 10 ** 5000
BARE = (0, 0, 0, 0, 0, 0)
DEEPEST = (9, 9, 9, 9, 9, 9)
EAR = (3, 0, 0, 0, 1, 9)
LINES = (
    (("owner",), "owner"),
    (("ground", 9), "ground 9"),
    (("enrol", 1, 2, EAR), "enrol 1 2 lt3 rf1 rh9"),
    (("leave", 3, 4), "leave 3 4"),
    (("bring", 5, 6, BARE), "bring 5 6 none"),
    (("bear", 7), "bear 7"),
    (("cut", 8), "cut 8"),
    (("tear", 10, 4), "tear 10 rf"),
    (("sell", 11, 12), "sell 11 12"),
    (("move", 13, 14), "move 13 14"),
    (("die", 15), "die 15"),
    (("unite", 16, 17), "unite 16 17"),
    (("part", 18), "part 18"),
    (("pass", 19, 20), "pass 19 20"),
    (("heir", 21, 22, 3), "heir 21 22 3"),
)
# Per word the kinds of its parts: a number, a place, an ear.
SHAPES = {
    "owner": "", "ground": "n", "enrol": "nne", "leave": "nn", "bring": "nne", "bear": "n", "cut": "n",
    "tear": "np", "sell": "nn", "move": "nn", "die": "n", "unite": "nn", "part": "n", "pass": "nn", "heir": "nnn",
}
PARTS = {
    "n": [(0, "0"), (1, "1"), (10, "10"), (GREATEST, "999999999"), (100000000, "100000000")],
    "p": list(enumerate(("lt", "lf", "lh", "rt", "rf", "rh"))),
    "e": [(BARE, "none"), (DEEPEST, "lt9 lf9 lh9 rt9 rf9 rh9"), (EAR, "lt3 rf1 rh9"), ((0, 0, 1, 0, 0, 0), "lh1")],
}
NO_PARTS = {
    "n": (-1, GREATEST + 1, GREAT, -GREAT, "1", "", "lt", BARE, (), (1,)),
    "p": (-1, 6, 7, GREATEST, GREAT, -GREAT, "lt", "0", BARE, (), (1,)),
    "e": ((), (0,), BARE[:5], BARE + (0,), (0, 0, 0, 0, 0, 10), (-1, 0, 0, 0, 0, 0), (0, 0, 0, 0, 0, GREAT), 0, 7,
          "none", "lt3", ""),
}
NO_TEXTS = {
    "n": ("", "-1", "+1", "01", "00", "1000000000", "0999999999", "9" * 5000, "1_0", "0x1", "1.0", "a", "1a", "lt",
          "none", "\n1", "1\n", "\n", "1e3"),
    "p": ("", "0", "5", "LT", "Lt", "lT", "ll", "l", "t", "lt0", "lt1", "ltlf", "lt\n", "\nlt", "none"),
    "e": ("", "0", "000000", "None", "NONE", "non", "none\n", "lt0", "lt10", "LT3", "Lt3", "lt", "3lt", "lt3 ", " lt3",
          "lt3  lf1", "lf1 lt3", "lt3 lt3", "lt3 none", "none lt3", "none none", "lt3\n", "lt3\nlf1", "lt3,lf1"),
}


def all_deeds():
    """Each word with all rows of its told parts, and the line of each."""
    for word, kinds in SHAPES.items():
        for parts in itertools.product(*[PARTS[kind] for kind in kinds]):
            yield (word,) + tuple(part for part, text in parts), " ".join([word] + [text for part, text in parts])


def one_bad(table, good):
    """Each word with told parts but for one, which is none of its kind."""
    for word, kinds in SHAPES.items():
        for at, kind in enumerate(kinds):
            for bad in table[kind]:
                yield [word] + [good(near) for near in kinds[:at]] + [bad] + [good(near) for near in kinds[at + 1:]]


class FitsTest(unittest.TestCase):
    def test_each_deed(self):
        self.assertEqual(sorted(deed[0] for deed, line in LINES), sorted(SHAPES))
        for deed, line in LINES:
            self.assertIs(fits(deed), True)

    def test_every_row_of_told_parts(self):
        for deed, line in all_deeds():
            self.assertIs(fits(deed), True)

    def test_without_parts(self):
        self.assertIs(fits(()), False)
        for word in SHAPES:
            self.assertIs(fits((word,)), word == "owner")

    def test_other_words(self):
        for word in ("", "Owner", "OWNER", "owner ", " owner", "owners", "own", "pass_on", "new_owner", "new_heir",
                     "do", "look", "torn", "sold", "owner\n", 0, 1, -1, GREAT, (), BARE, (1,)):
            for parts in ((), (1,), (1, 1), (1, 1, 1), (1, 1, BARE)):
                self.assertIs(fits((word,) + parts), False)

    def test_more_or_fewer_parts(self):
        for deed, line in LINES:
            for more in (0, 1, "", "lt", BARE, EAR, ()):
                self.assertIs(fits(deed + (more,)), False)
            if len(deed) > 1:
                self.assertIs(fits(deed[:-1]), False)
                self.assertIs(fits(deed[:1] + deed[2:]), False)

    def test_a_part_of_another_kind_or_out_of_bounds(self):
        for deed in one_bad(NO_PARTS, lambda kind: PARTS[kind][1][0]):
            self.assertIs(fits(tuple(deed)), False)

    def test_numbers_at_the_bounds(self):
        for number, told in ((-1, False), (0, True), (GREATEST, True), (GREATEST + 1, False)):
            self.assertIs(fits(("cut", number)), told)
            self.assertIs(fits(("ground", number)), told)
            self.assertIs(fits(("heir", 1, 1, number)), told)

    def test_the_word_stands_first(self):
        self.assertIs(fits((1, "cut")), False)
        self.assertIs(fits((1, 1, "sell")), False)

    def test_by_name(self):
        self.assertIs(fits(deed=("owner",)), True)


class WrittenTest(unittest.TestCase):
    def test_each_deed(self):
        for deed, line in LINES:
            self.assertEqual(written(deed), line)

    def test_every_row_of_told_parts(self):
        for deed, line in all_deeds():
            self.assertEqual(written(deed), line)

    def test_no_deeds(self):
        bad = [tuple(deed) for deed in one_bad(NO_PARTS, lambda kind: PARTS[kind][1][0])]
        bad += [deed + (1,) for deed, line in LINES] + [deed[:-1] for deed, line in LINES]
        bad += [("",), ("Owner",), (1,), (BARE,), ("owner", "owner"), ("owner\n",)]
        for deed in bad:
            with self.assertRaises(BadDeed):
                written(deed)

    def test_by_name(self):
        self.assertEqual(written(deed=("owner",)), "owner")


class ReadTest(unittest.TestCase):
    def refuse(self, line):
        with self.subTest(line=line[:60]):
            with self.assertRaises(BadLine):
                read_deed(line)

    def test_each_deed(self):
        for deed, line in LINES:
            self.assertEqual(read_deed(line), deed)

    def test_every_row_of_told_parts(self):
        for deed, line in all_deeds():
            self.assertEqual(read_deed(line), deed)
            self.assertIsInstance(read_deed(line), tuple)

    def test_every_ear(self):
        for ear in itertools.product((0, 1, 9), repeat=6):
            for word in ("enrol", "bring"):
                self.assertEqual(read_deed(written((word, 0, 7, ear))), (word, 0, 7, ear))

    def test_no_word(self):
        for line in ("", " ", "\n", "  ", "1", "0", "none", "lt3", "lt", "do", "own", "owners", "pass_on 1 2"):
            self.refuse(line)

    def test_a_blank_more(self):
        for deed, line in LINES:
            self.refuse(line + " ")
            self.refuse(" " + line)
            for at, sign in enumerate(line):
                if sign == " ":
                    self.refuse(line[:at] + " " + line[at:])

    def test_a_blank_less(self):
        for deed, line in LINES:
            for at, sign in enumerate(line):
                if sign == " ":
                    self.refuse(line[:at] + line[at + 1:])

    def test_a_line_end(self):
        for deed, line in LINES:
            for at in range(len(line) + 1):
                self.refuse(line[:at] + "\n" + line[at:])
            self.refuse(line.replace(" ", "\n") + "\n")

    def test_a_great_letter(self):
        for deed, line in LINES:
            for at, sign in enumerate(line):
                if sign.isalpha():
                    self.refuse(line[:at] + sign.upper() + line[at + 1:])

    def test_a_nought_ahead(self):
        for deed, line in LINES:
            words = line.split(" ")
            for at, word in enumerate(words):
                if word.isdigit():
                    self.refuse(" ".join(words[:at] + ["0" + word] + words[at + 1:]))

    def test_too_few_words(self):
        for deed, line in LINES:
            words = line.split(" ")
            many = len(SHAPES[words[0]]) + 1
            for few in range(1, many):
                self.refuse(" ".join(words[:few]))
                self.refuse(" ".join(words[:few]) + " ")

    def test_too_many_words(self):
        for deed, line in LINES:
            for more in ("0", "1", "lt", "lt1", "none", "owner", line):
                self.refuse(f"{line} {more}")

    def test_one_part_that_is_written_otherwise(self):
        for words in one_bad(NO_TEXTS, lambda kind: PARTS[kind][1][1]):
            self.refuse(" ".join(words))

    def test_each_part_as_python_shows_it(self):
        self.refuse("enrol 1 2 (3, 0, 0, 0, 1, 9)")
        self.refuse("('owner',)")
        self.refuse("tear 1 4")

    def test_numbers_at_the_bounds(self):
        self.assertEqual(read_deed("cut 0"), ("cut", 0))
        self.assertEqual(read_deed("cut 999999999"), ("cut", GREATEST))
        self.refuse("cut 1000000000")
        self.refuse("cut " + "1" * 10000)

    def test_each_sign_in_each_place(self):
        told = {line for deed, line in all_deeds()}
        for deed, line in LINES:
            for at in range(len(line) + 1):
                for sign in [chr(code) for code in range(32, 127)] + ["\n"]:
                    for changed in (line[:at] + sign + line[at:], line[:at] + sign + line[at + 1:]):
                        try:
                            again = written(read_deed(changed))
                        except BadLine:
                            self.assertNotIn(changed, told)
                        else:
                            self.assertEqual(again, changed)

    def test_only_figures_write_numbers(self):
        for sign in [chr(code) for code in range(32, 127)] + ["\n"]:
            for text in (sign, sign + "1", "1" + sign, "1" + sign + "1"):
                if sign in "0123456789" and (text == "0" or text[0] != "0"):
                    self.assertEqual(read_deed(f"cut {text}"), ("cut", int(text)))
                else:
                    self.refuse(f"cut {text}")

    def test_whatever_is_read_is_written_just_so(self):
        signs = " \n0129ltrfhnoe"
        for head in ("enrol 1 2 ", "tear 1 ", "cut ", "owner", ""):
            for many in range(5):
                for tail in itertools.product(signs, repeat=many):
                    line = head + "".join(tail)
                    try:
                        deed = read_deed(line)
                    except BadLine:
                        continue
                    self.assertEqual((written(deed), fits(deed)), (line, True))

    def test_by_name(self):
        self.assertEqual(read_deed(line="owner"), ("owner",))


if __name__ == "__main__":
    unittest.main()
