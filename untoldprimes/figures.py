"""Numbers written in figures."""

MOST_FIGURES = 7


def is_written_number(word):
    """Whether a text is one to seven figures, with no nought ahead but `0` itself."""
    if not word.isascii() or not word.isdigit() or len(word) > MOST_FIGURES:
        return False
    return word == "0" or word[0] != "0"
