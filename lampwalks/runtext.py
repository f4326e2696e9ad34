"""The text of a run: a row for each deed."""

from lampwalks.deeds import WORDS, is_deed
from lampwalks.errors import BadDeed, BadText
from lampwalks.landtext import number_of
from lampwalks.runs import check_many

MOST_DIGIT = 9


def run_text(run):
    """The text of the run. Its entries may be any values."""
    check_many(run)
    for i, deed in enumerate(run):
        if not is_deed(deed) or not 0 <= deed[1] <= MOST_DIGIT:
            raise BadDeed((i, 0))
    return "\n".join([f"{word} {x}" for word, x in run])


def run_of(text):
    """The run that has this text."""
    if text == "":
        return ()
    rows = text.split("\n")
    check_many(rows)
    run = tuple([deed_of(row) for row in rows])
    if None in run:
        raise BadText(run.index(None))
    return run


def deed_of(row):
    """The deed that a row tells; None if it is bad."""
    words = row.split(" ")
    if len(words) != 2 or words[0] not in WORDS:
        return None
    x = number_of(words[1], MOST_DIGIT)
    if x is None:
        return None
    return (words[0], x)
