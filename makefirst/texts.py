"""Books, stores and states as texts, and back."""

from makefirst.books import MOST_CHECKS, Book, are_columns, is_check
from makefirst.errors import BadText
from makefirst.stores import MOST_LAID, Store, are_cells, check_state, is_laid, state_fault

MOST_FIGURES = 6


def spaced(numbers):
    """The numbers with one blank between."""
    return " ".join([str(number) for number in numbers])


def row_text(row):
    """A figure for each value."""
    return "".join([str(value) for value in row])


def rows_text(rows):
    """The rows of a check, or a dash for none."""
    if not rows:
        return "-"
    return " ".join([row_text(row) for row in rows])


def book_lines(book):
    """The lines of a book."""
    lines = ["columns " + spaced(book.columns)]
    for places, rows in book.checks:
        lines.append("check " + spaced(places) + ": " + rows_text(rows))
    return lines


def book_text(book):
    """The book as a text."""
    return "\n".join(book_lines(book))


def store_text(store):
    """The store, its book ahead, as a text."""
    lines = book_lines(store.book)
    lines.append("cells " + spaced(store.cells))
    for check, looked_at in store.laid:
        lines.append("laid " + str(check) + ": " + spaced(looked_at))
    return "\n".join(lines)


def state_text(store, state):
    """The state as a line; BadState for any value that is none."""
    return spaced(check_state(store, state))


def is_figures(word):
    """Whether a word has one figure or more and no other sign."""
    return word.isascii() and word.isdigit()


def is_written_number(word):
    """Whether a word is a number as texts have it."""
    if not is_figures(word) or len(word) > MOST_FIGURES:
        return False
    return word == "0" or not word.startswith("0")


def numbers_behind(opening, line):
    """The numbers of a line behind its opening, one blank between; None for a line that is not so."""
    if not line.startswith(opening):
        return None
    words = line[len(opening):].split(" ")
    for word in words:
        if not is_written_number(word):
            return None
    return [int(word) for word in words]


def rows_from(text):
    """The rows of a check, ascending; None for a text that does not tell them so."""
    if text == "-":
        return []
    words = text.split(" ")
    for word in words:
        if not is_figures(word):
            return None
    rows = [tuple([int(figure) for figure in word]) for word in words]
    return rows if rows == sorted(set(rows)) else None


def check_from(columns, line):
    """The check that a line tells; None for a line that tells none."""
    head, _, tail = line.partition(": ")
    check = (numbers_behind("check ", head), rows_from(tail))
    return check if is_check(columns, check) else None


def laid_from(book, cells, line):
    """The laid check that a line tells; None for a line that tells none."""
    head, _, tail = line.partition(": ")
    numbers = numbers_behind("laid ", head)
    if numbers is None or len(numbers) != 1:
        return None
    laid = (numbers[0], numbers_behind("", tail))
    return laid if is_laid(book, cells, laid) else None


def book_from(lines):
    """The book of these lines; BadText with the first line that is not so, that lacks, or is too many."""
    columns = numbers_behind("columns ", lines[0]) if lines else None
    if not are_columns(columns):
        raise BadText(1)
    checks = []
    for at, line in enumerate(lines[1:]):
        check = check_from(columns, line)
        if check is None or at >= MOST_CHECKS:
            raise BadText(at + 2)
        checks.append(check)
    return Book(columns, checks)


def cells_line(lines):
    """How many lines are ahead of the one that tells the cells; all of them if there is none."""
    for at, line in enumerate(lines):
        if line.startswith("cells "):
            return at
    return len(lines)


def laid_lines(book, cells, lines, ahead):
    """The laid checks of these lines; BadText with the first that is not so, so many lines being ahead."""
    found = []
    for at, line in enumerate(lines):
        laid = laid_from(book, cells, line)
        if laid is None:
            raise BadText(ahead + at + 1)
        found.append(laid)
    return found


def read_book(text):
    """The book of a text; BadText for any value that is none."""
    if not isinstance(text, str):
        raise BadText(0)
    return book_from(text.split("\n"))


def read_store(text):
    """The store of a text; BadText for any value that is none."""
    if not isinstance(text, str):
        raise BadText(0)
    lines = text.split("\n")
    ahead = cells_line(lines)
    book = book_from(lines[:ahead])
    cells = numbers_behind("cells ", lines[ahead]) if ahead < len(lines) else None
    behind = lines[ahead + 1:]
    if not are_cells(book, cells) or len(behind) > MOST_LAID:
        raise BadText(ahead + 1)
    return Store(book, cells, laid_lines(book, cells, behind, ahead + 1))


def read_state(store, text):
    """The state of a text, as a tuple; BadText for any value that is none."""
    if not isinstance(text, str):
        raise BadText(0)
    values = numbers_behind("", text)
    if state_fault(store, values) is not None:
        raise BadText(1)
    return tuple(values)
