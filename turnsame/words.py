"""What a NAME is, and what a NUMBER is [4]."""

KEPT_WORDS = (
    "record", "function", "deep", "open", "let", "var", "set", "do", "if", "while", "each", "say", "fault",
    "add", "sub", "mul", "div", "less", "same", "at", "not", "size", "row", "new", "get", "fun", "apply",
)
LONGEST_NAME = 8
LEAST_NUMBER = -32768
GREATEST_NUMBER = 32767
MOST_FIGURES = 5


def is_name(word):
    """True where the text is a NAME."""
    if not 1 <= len(word) <= LONGEST_NAME or word in KEPT_WORDS:
        return False
    return all(["a" <= sign <= "z" for sign in word])


def is_figures(word):
    return all(["0" <= sign <= "9" for sign in word])


def is_count_word(word):
    """True where the text is figures, the first no 0 but in 0 itself."""
    return len(word) > 0 and is_figures(word) and (word == "0" or word[0] != "0")


def in_bounds(number):
    return LEAST_NUMBER <= number <= GREATEST_NUMBER


def is_number(word):
    """True where the text is a NUMBER."""
    figures = word.removeprefix("-")
    # int() refuses texts of thousands of figures, so it is asked of short ones alone.
    if not 1 <= len(figures) <= MOST_FIGURES or not is_figures(figures):
        return False
    # A NUMBER is written in one way alone: this rules out 00, 01 and -0.
    return in_bounds(int(word)) and str(int(word)) == word


def number_of(word):
    """The number that a NUMBER writes."""
    return int(word)
