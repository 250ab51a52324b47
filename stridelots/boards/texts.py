"""Standings as texts."""

from stridelots.boards.cells import high_and_wide
from stridelots.errors import NoStanding

LETTERS = "abcdefghijklmnopqrstuvwxyz"
MOST_LETTERS = 4


def standing_shown(board, standing):
    """The text of a standing of the board."""
    high, wide = high_and_wide(board)
    words = [_thing_shown(thing) for thing in standing]
    rows = [" ".join(words[r * wide:(r + 1) * wide]) for r in range(high)]
    return " / ".join(rows)


def read_standing(board, text):
    """The standing of the board that the text tells, or NoStanding."""
    high, wide = high_and_wide(board)
    words_due = high * (wide + 1) - 1
    # Not split(): it would part words at line ends and skip words without signs.
    words = text.split(" ")
    for at, word in enumerate(words):
        if at >= words_due or not _is_due(word, at, wide):
            raise NoStanding(at)
    if len(words) < words_due:
        raise NoStanding(len(words))
    return tuple([_thing_of(word) for word in words if word != "/"])


def is_name(word):
    """Whether the word is a name as things have it."""
    if not 1 <= len(word) <= MOST_LETTERS:
        return False
    # Not islower: it lets other signs by beside a letter.
    return all([sign in LETTERS for sign in word])


def _is_due(word, at, wide):
    """Whether the word may be number at of a text with so many things in a row."""
    if at % (wide + 1) == wide:
        return word == "/"
    name, _ = _thing_of(word)
    return is_name(name)


def _thing_of(word):
    """The thing that the word tells, if its name is one."""
    if word.startswith("-"):
        return word[1:], 1
    return word, 0


def _thing_shown(thing):
    """The word that tells the thing."""
    name, face = thing
    if face == 1:
        return f"-{name}"
    return name
