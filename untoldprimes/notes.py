"""Papers written as texts and read back."""

from untoldprimes.errors import NoText
from untoldprimes.figures import is_written_number


def show_table(table):
    """The line of a table, with its line feed."""
    return " ".join([f"{whole}:{left}" for whole, left in table]) + "\n"


def show_paper(paper):
    """The text of a paper, a line for each table."""
    return "".join([show_table(table) for table in paper])


def read_pair(word):
    """The pair of whole numbers that a word tells."""
    numbers = word.split(":")
    if len(numbers) != 2 or not is_written_number(numbers[0]) or not is_written_number(numbers[1]):
        raise NoText("a pair is two numbers of at most seven figures with a colon between them")
    return int(numbers[0]), int(numbers[1])


def read_paper(text):
    """The tables of a text, a list of lists of tuples."""
    if not isinstance(text, str) or not text.endswith("\n"):
        raise NoText("a text has a table or more, each with a line feed behind")
    # Two blanks together, one ahead or behind, or an empty line give an empty word, which is no pair.
    return [[read_pair(word) for word in line.split(" ")] for line in text.split("\n")[:-1]]
