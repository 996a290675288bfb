"""Texts as lines of words."""

from interruptruns.errors import ParseError

DIGITS = "0123456789"
MOST_DIGITS = 30


def is_numeral(word):
    """Return whether the word is an integer as it is written in a text."""
    if not 1 <= len(word) <= MOST_DIGITS:
        return False
    if word[0] == "0" and word != "0":
        return False
    return all([digit in DIGITS for digit in word])


def read_words(words, form):
    """Return the list of what the words tell, or None if they are not of the form.

    A form is a tuple: N stands for an integer and NAME for any word. Both are
    returned; the other words stand for themselves.
    """
    if len(words) != len(form):
        return None
    found = []
    for word, part in zip(words, form):
        if not is_written(word, part):
            return None
        if part == "N":
            found.append(int(word))
        elif part == "NAME":
            found.append(word)
    return found


def is_written(word, part):
    """Return whether the word is written as this part of a form."""
    if part == "N":
        return is_numeral(word)
    if part == "NAME":
        return word != ""
    return word == part


class Reader:
    """Gives the lines of a text, one after another, as words."""

    def __init__(self, text):
        self.rows = [line.split(" ") for line in text.split("\n")]
        self.at = 0

    def has_more(self):
        """Return whether there is a line that was not taken."""
        return self.at < len(self.rows)

    def words(self):
        """Return the words of the next line, which has to be there."""
        if not self.has_more():
            raise ParseError(self.at)
        return list(self.rows[self.at])

    def take(self, form):
        """Return what the next line tells, which has to be of the form, and go on."""
        found = read_words(self.words(), form)
        if found is None:
            raise ParseError(self.at)
        self.at += 1
        return found
