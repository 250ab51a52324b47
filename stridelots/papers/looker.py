"""The looker: whether a paper, whoever wrote it, shows that no deeds lead from one standing to another."""

from stridelots.books.rules import all_deeds, is_whole, pairs_of
from stridelots.papers.faces import down_parted
from stridelots.signs.turns import are_same, sign_between
from stridelots.webs.classes import classes_of
from stridelots.webs.marks import is_even, kinds_by_class

PARTS = {"lack": 3, "faces": 2, "turns": 2}


def barred_shown(board, book, one, other, paper):
    """Whether the tuple is a paper that no deeds lead from one standing to the other."""
    if not paper or len(paper) != PARTS.get(paper[0], 0):
        return False
    classes = classes_of(board, book)
    if paper[0] == "turns":
        return _are_rising(classes, paper[1]) and _turns_shown(board, book, one, other, paper[1])
    if not _is_number(classes, paper[1]):
        return False
    if paper[0] == "lack":
        return _lack_shown(board, book, one, other, paper)
    return not is_even(board, book) and down_parted(classes[paper[1]], one, other)


def _is_number(classes, part):
    """Whether the part of a paper is the number of a class."""
    return is_whole(part) and 0 <= part < len(classes)


def _are_rising(classes, part):
    """Whether the part of a paper is a tuple of numbers of classes, rising, one at least."""
    if not isinstance(part, tuple) or not part:
        return False
    if not all([_is_number(classes, number) for number in part]):
        return False
    return all([one < other for one, other in zip(part, part[1:])])


def _lack_shown(board, book, one, other, paper):
    """Whether the paper's kind stands in its class not as often in both."""
    _, number, kind = paper
    kinds = kinds_by_class(board, book, one)[number]
    goals = kinds_by_class(board, book, other)[number]
    return kinds.count(kind) != goals.count(kind)


def _turns_shown(board, book, one, other, numbers):
    """Whether no deeds turn these classes, told by their numbers, as the standings do."""
    if not _are_lot(board, book, numbers):
        return False
    kinds = kinds_by_class(board, book, one)
    goals = kinds_by_class(board, book, other)
    if not all([are_same(kinds[number], goals[number]) for number in numbers]):
        return False
    signs = [sign_between(kinds[number], goals[number]) for number in numbers]
    return None not in signs and sum(signs) % 2 == 1


def _are_lot(board, book, numbers):
    """Whether each deed of the book has an even number of pairs in these classes together."""
    classes = classes_of(board, book)
    inside = [cell for number in numbers for cell in classes[number]]
    for deed in all_deeds(board, book):
        pairs = pairs_of(board, book, deed)
        # Both cells of a pair lie in one class.
        if len([one for one, _ in pairs if one in inside]) % 2 == 1:
            return False
    return True
