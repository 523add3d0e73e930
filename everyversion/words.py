"""Words of texts: which are barred as names, which show integers, and on which lines they stand."""

from everyversion.grammar import DIGITS, WORDS


def is_barred(word):
    """Whether a string is one of the WORDS, which are no NAMES."""
    return word in WORDS


def integer_in(word):
    """Return the integer that a string shows just as Python shows it, None if it shows none."""
    digits = word.removeprefix("-")
    if not 1 <= len(digits) <= 200 or not all([sign in DIGITS for sign in digits]):
        return None
    # Python shows no 0 ahead of other digits, and no sign ahead of 0.
    if digits[0] == "0" and word != "0":
        return None
    return int(word)


def lines_of(text):
    """Return the list of tuples (line, words) of the lines that have words."""
    found = []
    for line, signs in enumerate(text.split("\n")):
        words = tuple([word for word in signs.partition("#")[0].split(" ") if word != ""])
        if words != ():
            found.append((line, words))
    return found
