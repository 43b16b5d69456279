"""Texts of words that are parted by single spaces."""

from fateboards.errors import InvalidText


class WordReader:
    """Takes the words of a text from left to right, and knows at which index the next one begins.

    A space too many, or one at the beginning or at the end, makes an empty word:
    so it is found where the text goes wrong without a look at the spaces themselves.
    """

    def __init__(self, text):
        self.words = text.split(" ")
        self.taken = 0
        self.place = 0
        self.length = len(text)

    def take(self, allowed):
        """Takes and returns the next word, which must be one of the allowed ones."""
        if self.taken == len(self.words):
            raise InvalidText(self.length)
        word = self.words[self.taken]
        if word not in allowed:
            raise InvalidText(self.place)
        self.taken += 1
        self.place += len(word) + 1
        return word

    def end(self):
        """Raises InvalidText if there is a word left."""
        if self.taken < len(self.words):
            raise InvalidText(self.place)
