"""Point 58: grounds with worths as texts."""

import re
import unittest
from random import Random

from pitlots import errors
from pitlots.grounds import Ground
from pitlots.texts import read, write
from tests import plain

GROUND, WORTHS = Ground(((), (0,), (0, 1))), (5, -3, 0)
TEXT = "block 0 worth 5\nblock 1 worth -3 needs 0\nblock 2 worth 0 needs 0 1"
TEN = "\n".join(f"block {block} worth {5 * block}" for block in range(10))

NUMBER = r"(?:0|-?[1-9][0-9]*)"


def stands(words, block, whole):
    """Whether words can begin the line of a block, or be all of it."""
    told = re.fullmatch(rf"block {block} worth ({NUMBER})(?: needs((?: {NUMBER})*))?", " ".join(words))
    if told is None:
        # What can still come is put behind the words: the least that could make a line of them.
        return not whole and len(words) < 4 and stands(words + ["block", str(block), "worth", "0"][len(words):],
                                                       block, True)
    worth, needs = told.groups()
    if abs(int(worth)) > 50 or needs is not None and block == 0:
        return False
    numbers = [int(number) for number in (needs or "").split()]
    if whole and needs is not None and not numbers:
        return False
    return numbers == sorted(set(numbers)) and all(0 <= number < block for number in numbers)


def plainly(text):
    """The covers and worths of a text, or the line and the word that cannot stand there."""
    lines, covers, worths = text.split("\n"), [], []
    for number, line in enumerate(lines):
        words = re.findall("[^ ]+", line)
        if number == 10:
            return 11, 1
        if not stands(words, number, True):
            many = [size for size in range(len(words) + 1) if stands(words[:size], number, False)]
            return number + 1, many[-1] + 1
        covers.append(tuple(int(word) for word in words[5:]))
        worths.append(int(words[3]))
    return tuple(covers), tuple(worths)


def told(text):
    """What the program tells of a text: as the plain way."""
    try:
        ground, worths = read(text)
    except errors.InvalidText as error:
        return error.line, error.word
    return ground.covers, worths


class WriteTest(unittest.TestCase):
    def test_texts(self):
        self.assertEqual(write(GROUND, WORTHS), TEXT)
        self.assertEqual(write(Ground(((),)), (0,)), "block 0 worth 0")
        self.assertEqual(write(Ground(((),)), (-50,)), "block 0 worth -50")
        self.assertEqual(write(Ground(((),) * 10), tuple(range(0, 50, 5))), TEN)
        self.assertEqual(write(Ground(((),) * 9 + ((0, 4, 8),)), (50,) * 10).split("\n")[9],
                         "block 9 worth 50 needs 0 4 8")

    def test_what_is_written_is_read(self):
        dice = Random(58)
        for covers in plain.GREAT:
            worths = plain.some_worths(dice, len(covers))
            text = write(Ground(covers), worths)
            answer = read(text)
            with self.subTest(text):
                self.assertIs(answer.__class__, tuple)
                self.assertEqual(answer, (Ground(covers), worths))
                self.assertEqual(plainly(text), (covers, worths))
                self.assertEqual(write(*answer), text)

    def test_wrong_arguments(self):
        for worths in (None, (), (0, 0), (0,) * 4, [0, 0, 0], (0, 0, True), (0, 0, 51), (-51, 0, 0), "000"):
            self.assertRaises(errors.BadWorths, write, GROUND, worths)
            self.assertRaises(errors.BadGround, write, TEXT, worths)


class ReadTest(unittest.TestCase):
    def tell(self, text, line, word):
        with self.subTest(text):
            with self.assertRaises(errors.InvalidText) as caught:
                read(text)
            self.assertEqual(vars(caught.exception), {"line": line, "word": word})
            self.assertEqual(plainly(text), (line, word))

    def test_spaces(self):
        for text in ("  block 0 worth 5", "block 0 worth 5   ", "block  0   worth 5", "   block    0 worth   5   "):
            self.assertEqual(told(text), (((),), (5,)))
        self.assertEqual(told(TEXT.replace(" ", "   ").replace("\n", "  \n ")), (GROUND.covers, WORTHS))

    def test_other_blanks(self):
        # They part no words, and end no lines.
        for blank in "\t\r\x0b\x0c\x1c\x85\xa0\u2003\u2028\u3000":
            self.tell("block" + blank + "0 worth 5", 1, 1)
            self.tell("block 0 worth" + blank + "5", 1, 3)
            self.tell("block 0 worth 5" + blank, 1, 4)
            self.tell("block 0 worth 5 " + blank, 1, 5)
            self.tell(blank + "block 0 worth 5", 1, 1)
            self.tell("block 0 worth 5" + blank + "\nblock 1 worth 6", 1, 4)
            self.tell("block 0 worth 5\nblock 1 worth 5 needs 0" + blank, 2, 6)

    def test_empty_lines(self):
        self.tell("", 1, 1)
        self.tell(" ", 1, 1)
        self.tell("\n", 1, 1)
        self.tell("\n" + TEXT, 1, 1)
        self.tell(TEXT + "\n", 4, 1)
        self.tell(TEXT + "\n  \n", 4, 1)
        self.tell(TEXT.replace("\n", "\n\n"), 2, 1)

    def test_ten_and_eleven_lines(self):
        self.assertEqual(told(TEN), (((),) * 10, tuple(range(0, 50, 5))))
        for more in ("block 10 worth 0", "", "   ", "block", "x", "block 10"):
            self.tell(TEN + "\n" + more, 11, 1)
        self.tell(TEN + "\n" + "\n", 11, 1)
        self.tell(TEN[:-2] + "51\nblock 10 worth 0", 10, 4)

    def test_too_few_words(self):
        for text, word in (("block", 2), ("block 0", 3), ("block 0 worth", 4), ("  block  0  ", 3)):
            self.tell(text, 1, word)
            self.tell(text + "\nblock 1 worth 0", 1, word)
        for text, word in (("block", 2), ("block 1", 3), ("block 1 worth", 4), ("block 1 worth 0 needs", 6),
                           ("block 1 worth 0 needs  ", 6)):
            self.tell("block 0 worth 5\n" + text, 2, word)

    def test_too_many_words(self):
        self.tell("block 0 worth 5 0", 1, 5)
        self.tell("block 0 worth 5 block 1 worth 0", 1, 5)
        self.tell("block 0 worth 5\nblock 1 worth 0 needs 0 0", 2, 7)
        self.tell("block 0 worth 5\nblock 1 worth 0 needs 0 needs", 2, 7)
        self.tell("block 0 worth 5\nblock 1 worth 0 0", 2, 5)

    def test_words(self):
        for text, word in (("Block 0 worth 5", 1), ("blocks 0 worth 5", 1), ("0 block worth 5", 1),
                           ("block 1 worth 5", 2), ("block worth 5", 2), ("block 0 Worth 5", 3), ("block 0 5", 3),
                           ("block 0 worth five", 4), ("block 0 worth needs", 4), ("block 0 worth -", 4)):
            self.tell(text, 1, word)

    def test_numbers(self):
        for number in ("00", "-0", "+0", "+5", "05", "-05", "5.", "5.0", "1_0", "0x5", "51", "-51", "--5", "1e1",
                       "True", "\u0665", "\u00b2", "9" * 3000, "-" + "9" * 3000):
            self.tell("block 0 worth " + number, 1, 4)
            self.tell("block 0 worth 0\nblock 1 worth " + number + " needs 0", 2, 4)
            self.tell("block 0 worth 0\nblock 1 worth 0 needs " + number, 2, 6)
        for number in ("00", "-0", "+0", "1", "0.0", "\u0660"):
            self.tell("block " + number + " worth 5", 1, 2)
        for number in ("01", "+1", "0", "2", "-1"):
            self.tell("block 0 worth 5\nblock " + number + " worth 5", 2, 2)
        for number in ("0", "50", "-50", "-1", "10", "9"):
            self.assertEqual(told("block 0 worth " + number), (((),), (int(number),)))

    def test_needs(self):
        self.tell("block 0 worth 5 needs", 1, 5)
        self.tell("block 0 worth 5 needs 0", 1, 5)
        lines = "block 0 worth 0\nblock 1 worth 0\nblock 2 worth 0\nblock 3 worth 0 "
        for needs, word in (("needs", 6), ("needs 3", 6), ("needs 4", 6), ("needs -1", 6), ("needs 0 0", 7),
                            ("needs 1 0", 7), ("needs 0 2 1", 8), ("needs 0 1 2 3", 9), ("needs 0 1 2 2", 9),
                            ("needs 0,1", 6), ("need 0", 5), ("Needs 0", 5), ("needs needs 0", 6), ("needs 2 3", 7),
                            ("needs 00", 6), ("needs 0 01", 7), ("needs 0 +1", 7)):
            self.tell(lines + needs, 4, word)
        for needs in ((0,), (1,), (2,), (0, 2), (0, 1, 2)):
            text = lines + "needs " + " ".join(map(str, needs))
            self.assertEqual(told(text), (((), (), (), needs), (0,) * 4))

    def test_the_first_line_that_cannot_stand(self):
        self.tell("block 0 worth 5\nblock 1 worth 5 needs 1\nblock 3 worth 5", 2, 6)
        self.tell("block 0 worth 5\nblock 2 worth 5\nblock", 2, 2)
        self.tell("x\ny\nz", 1, 1)

    def test_texts_with_other_words(self):
        dice, seen = Random(581), {"right": 0, "wrong": 0}
        words = ["block", "worth", "needs", "0", "1", "2", "3", "-1", "01", "+1", "50", "51", "-0", "", "\n", " ", "\t"]
        for covers in plain.SMALL * 24:
            text = write(Ground(covers), plain.some_worths(dice, len(covers)))
            parts = re.split("( |\n)", text)
            for _ in range(dice.randint(1, 2)):
                place = dice.randrange(len(parts))
                if dice.randint(0, 2):
                    parts[place] = dice.choice(words)
                else:
                    parts.insert(place, dice.choice(words))
            changed = "".join(parts)
            with self.subTest(changed):
                self.assertEqual(told(changed), plainly(changed))
            seen["right" if isinstance(plainly(changed)[0], tuple) else "wrong"] += 1
        self.assertTrue(min(seen.values()) > 20, seen)

    def test_what_is_no_string(self):
        for value in (None, 0, True, (), [TEXT], {}, ("block 0 worth 5",)):
            with self.assertRaises(errors.InvalidText) as caught:
                read(value)
            self.assertEqual(vars(caught.exception), {"line": 1, "word": 1})


if __name__ == "__main__":
    unittest.main()
