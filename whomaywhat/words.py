"""Words, their numbers, and the stock order."""

LETTERS = "abcdefghijklmnopqrstuvwxyz"


def is_word(text):
    """True if the string is one or more letters a to z."""
    return text != "" and all(letter in LETTERS for letter in text)


def word_number(word):
    """The number of a word; 0 for the blank."""
    number = 0
    for letter in word:
        number = number * len(LETTERS) + LETTERS.index(letter) + 1
    return number


def word_at(number):
    """The word with this number; the blank for 0."""
    letters = []
    while number > 0:
        # There is no letter for zero, so the last letter stands for 1 to 26.
        number, place = divmod(number - 1, len(LETTERS))
        letters.append(LETTERS[place])
    return "".join(letters[::-1])


def stock_place(mentioned, word):
    """The place of a word or the blank in the stock order that the mentioned words fix."""
    if word == "":
        return (0, 0)
    if word in mentioned:
        return (1, mentioned.index(word))
    return (2, word_number(word))


def fresh_words(mentioned, count):
    """The list of the first count words, by their numbers, that are not mentioned."""
    taken = set(mentioned)
    fresh = []
    number = 1
    while len(fresh) < count:
        word = word_at(number)
        if word not in taken:
            fresh.append(word)
        number += 1
    return fresh
