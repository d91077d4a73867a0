import itertools
import random
import unittest

from whomaywhat.words import fresh_words, is_word, stock_place, word_at, word_number

LETTERS = "abcdefghijklmnopqrstuvwxyz"


class IsWordTest(unittest.TestCase):
    def test_words(self):
        for text in ("a", "z", "m", "who", "grant", "abcdefghijklmnopqrstuvwxyz", "q" * 5000):
            self.assertIs(is_word(text), True, text)

    def test_the_blank_is_no_word(self):
        self.assertIs(is_word(""), False)

    def test_any_other_character_at_any_place(self):
        others = [chr(code) for code in range(128) if chr(code) not in LETTERS]
        for other in others:
            for text in (other, other + "ab", "a" + other + "b", "ab" + other, other * 2):
                self.assertIs(is_word(text), False, repr(text))


class NumbersTest(unittest.TestCase):
    KNOWN = {
        "": 0, "a": 1, "b": 2, "z": 26, "aa": 27, "az": 52, "ba": 53, "zy": 701, "zz": 702,
        "aaa": 703, "aab": 704, "zzz": 18278, "aaaa": 18279,
    }

    def test_known_numbers(self):
        for word, number in self.KNOWN.items():
            self.assertEqual(word_number(word), number)
            self.assertEqual(word_at(number), word)

    def test_shorter_first_then_alphabetical(self):
        words = [""]
        for length in (1, 2, 3):
            words += ["".join(letters) for letters in itertools.product(LETTERS, repeat=length)]
        self.assertEqual([word_number(word) for word in words], list(range(len(words))))
        self.assertEqual([word_at(number) for number in range(len(words))], words)

    def test_words_of_forty_letters(self):
        self.assertEqual(word_number("a" * 40), sum(26 ** k for k in range(40)))
        self.assertEqual(word_number("z" * 40), sum(26 ** k for k in range(1, 41)))
        self.assertEqual(word_number("z" * 40) + 1, word_number("a" * 41))
        dice = random.Random(5)
        for _ in range(200):
            word = "".join(dice.choice(LETTERS) for _ in range(40))
            self.assertEqual(word_at(word_number(word)), word)

    def test_numbers_of_hundreds_of_digits(self):
        dice = random.Random(6)
        for digits in (30, 300, 700):
            for number in (10 ** digits, 10 ** digits - 1, dice.randrange(10 ** digits)):
                word = word_at(number)
                self.assertTrue(is_word(word))
                self.assertEqual(word_number(word), number)

    def test_around_every_power(self):
        last = 0
        for length in range(1, 60):
            last += 26 ** length
            self.assertEqual(word_at(last), "z" * length)
            self.assertEqual(word_at(last + 1), "a" * (length + 1))


class StockPlaceTest(unittest.TestCase):
    def test_the_blank(self):
        self.assertEqual(stock_place((), ""), (0, 0))
        self.assertEqual(stock_place(("a", "b"), ""), (0, 0))

    def test_mentioned_words(self):
        mentioned = ("ann", "anna", "bob", "zoe", "zoezoe")
        for index, word in enumerate(mentioned):
            self.assertEqual(stock_place(mentioned, word), (1, index))

    def test_other_words(self):
        mentioned = ("ann", "bob")
        self.assertEqual(stock_place(mentioned, "a"), (2, 1))
        self.assertEqual(stock_place((), "ann"), (2, word_number("ann")))
        # Words that begin like a mentioned one, and words with which a mentioned one begins.
        for word in ("an", "anna", "bo", "bobb", "b"):
            self.assertEqual(stock_place(mentioned, word), (2, word_number(word)))
        self.assertEqual(stock_place(mentioned, "ann" * 30), (2, word_number("ann" * 30)))

    def test_order(self):
        mentioned = ("m", "zz")
        words = ["", "m", "zz", "a", "z", "aa", "mm", "zy", "aaa"]
        self.assertEqual(sorted(reversed(words), key=lambda word: stock_place(mentioned, word)), words)


class FreshWordsTest(unittest.TestCase):
    def test_examples(self):
        self.assertEqual(fresh_words(("a", "c"), 3), ["b", "d", "e"])
        self.assertEqual(fresh_words((), 0), [])
        self.assertEqual(fresh_words(("a",), 0), [])
        self.assertEqual(fresh_words((), 28), list(LETTERS) + ["aa", "ab"])

    def test_mentioned_words_far_away(self):
        self.assertEqual(fresh_words(("zebra", "zzzzzz"), 2), ["a", "b"])

    def test_all_first_words_mentioned(self):
        mentioned = tuple(sorted(list(LETTERS) + ["aa", "ac"]))
        self.assertEqual(fresh_words(mentioned, 3), ["ab", "ad", "ae"])

    def test_results_are_independent(self):
        first = fresh_words(("b",), 3)
        first.append("zzz")
        first[0] = "q"
        self.assertEqual(fresh_words(("a",), 2), ["b", "c"])
        self.assertEqual(fresh_words((), 2), ["a", "b"])
        self.assertEqual(fresh_words(("b",), 3), ["a", "c", "d"])
        self.assertEqual(fresh_words(("b",), 4), ["a", "c", "d", "e"])

    def test_against_the_definition(self):
        dice = random.Random(7)
        for _ in range(50):
            mentioned = tuple(sorted({word_at(dice.randrange(1, 60)) for _ in range(dice.randrange(40))}))
            count = dice.randrange(30)
            expected = [word_at(n) for n in range(1, 100) if word_at(n) not in mentioned][:count]
            self.assertEqual(fresh_words(mentioned, count), expected)


if __name__ == "__main__":
    unittest.main()
