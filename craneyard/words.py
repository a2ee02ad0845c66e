"""Names and whole numbers, and how they are written."""

LONGEST_NAME = 8
GREATEST_NUMBER = 10 ** 12
MOST_FIGURES = 13


def is_name(thing):
    """Whether this is a text of one to eight small letters a to z."""
    if not isinstance(thing, str) or len(thing) > LONGEST_NAME:
        return False
    # An empty text has no small letter, and so it isn't lower.
    return thing.islower() and thing.isalpha() and thing.isascii()


def is_among(thing, least, most):
    """Whether this is a whole number from least to most."""
    # Python takes a truth for a whole number; here it is none.
    if not isinstance(thing, int) or isinstance(thing, bool):
        return False
    return least <= thing <= most


def number_of(word):
    """The number that this text writes, or None."""
    # The length comes first: Python refuses to read texts of very many figures.
    if not isinstance(word, str) or not 1 <= len(word) <= MOST_FIGURES:
        return None
    if not all(["0" <= sign <= "9" for sign in word]):
        return None
    if word[0] == "0" and word != "0":
        return None
    number = int(word)
    if number > GREATEST_NUMBER:
        return None
    return number


def words_of(line):
    """A list of the words of a line, which have one blank between; an empty one of what is no line."""
    # A text with a line end is several lines, and none.
    if not isinstance(line, str) or "\n" in line:
        return []
    words = line.split(" ")
    return [] if "" in words else words
