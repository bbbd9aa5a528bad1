"""Claims: what can be said of all stores of a book, with papers that show it."""

from makefirst.detours import detour_holds, detour_of, stuck_holds, stuck_lot
from makefirst.layers import is_ranked, knot_papers, papers_hold
from makefirst.parking import parked_holds, parked_lots, parked_way
from makefirst.plain import are_ascending, is_sequence
from makefirst.rankings import is_ranking, least_ranking


def claim_holds(book, value):
    """Whether any value is a word and a paper that shows what the word claims of the book."""
    if not is_sequence(value) or len(value) != 2:
        return False
    word, paper = value
    if word == "ranking":
        return is_ranking(book, paper)
    if word == "knot":
        return papers_hold(book, paper)
    if word == "detour":
        return detour_holds(book, paper)
    if word == "stuck":
        return stuck_holds(book, paper)
    return word == "parked" and is_parked_paper(book, paper)


def is_parked_paper(book, value):
    """Whether any value is columns and a detour that parks these alone."""
    if not is_sequence(value) or len(value) != 2:
        return False
    columns, way = value
    return are_ascending(columns, len(book.columns)) and parked_holds(book, columns, way)


def claims_of(book, *, most):
    """The claims that hold of the book, each a word and its paper: two, or three where there is a detour."""
    first = ("ranking", least_ranking(book)) if is_ranked(book) else ("knot", knot_papers(book))
    way = detour_of(book, most=most)
    if way is None:
        return first, ("stuck", stuck_lot(book, most=most))
    columns = parked_lots(book, most=most)[0]
    return first, ("detour", way), ("parked", (columns, parked_way(book, columns, most=most)))
