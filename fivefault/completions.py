"""Completions: the board and the reading that a rule list and a goal make by themselves."""

from fivefault.boards import Board
from fivefault.closure import Closure
from fivefault.errors import TooManyPlaces
from fivefault.masks import indexes_in, mask_of
from fivefault.rules import vocabulary
from fivefault.syntax import term_text
from fivefault.terms import is_letter


def completion(rules, goal=None):
    """Return the completion as a tuple of a board, a reading, and the list of the texts of each place.

    Raises the errors of check_rules, then TooManyPlaces.
    """
    terms = vocabulary(rules, goal)
    masks = Closure(rules, terms).unders
    members = [indexes_in(mask) for mask in all_meets(masks)]
    # The vocabulary ascends by texts, so lists of indexes are in the order of the lists of the texts.
    members = sorted(members, key=lambda row: (len(row), row))
    meets = [mask_of(row) for row in members]
    board = Board(["".join(["1" if one & other == one else "0" for other in meets]) for one in meets])
    reading = {term: meets.index(masks[at]) for at, term in enumerate(terms) if is_letter(term)}
    return (board, reading, [[term_text(terms[at]) for at in row] for row in members])


def all_meets(masks):
    """Return the list of all intersections of masks, and the mask of all. Raises TooManyPlaces."""
    meets = [mask_of(list(range(len(masks))))]
    for mask in masks:
        known = {meet: True for meet in meets}
        for meet in meets:
            known[meet & mask] = True
        # The list only grows, so that far too many intersections are not all made.
        if len(known) > Board.MAX_PLACES:
            raise TooManyPlaces(Board.MAX_PLACES)
        meets = list(known)
    return meets
