"""Texts parted into tokens, and written again [10]."""


def is_word_sign(sign):
    return "!" <= sign <= "~" and sign not in "();"


def line_end_from(text, at):
    """Where the line ends in which the sign number at stands."""
    end = text.find("\n", at)
    return len(text) if end < 0 else end


def gap_end(text, at):
    """Where the gap ends that begins at at."""
    while at < len(text):
        sign = text[at]
        if sign == ";":
            at = line_end_from(text, at)
        elif sign in "()" or is_word_sign(sign):
            return at
        else:
            at += 1
    return at


def word_end(text, at):
    """Where the word ends that begins at at."""
    if text[at] in "()":
        return at + 1
    while at < len(text) and is_word_sign(text[at]):
        at += 1
    return at


def tokens_of(text):
    """The tokens, a list of (gap, word), and the tail behind the last word."""
    tokens = []
    at = 0
    first = gap_end(text, at)
    while first < len(text):
        end = word_end(text, first)
        tokens.append((text[at:first], text[first:end]))
        at = end
        first = gap_end(text, at)
    return tokens, text[at:]


def text_of(tokens, tail):
    return "".join([gap + word for gap, word in tokens]) + tail
