"""The document's examples, as far as they speak of the modules that have landed."""

import doctest
import unittest

OVERVIEW = '''
    >>> from makefirst.books import Book
    >>> from makefirst.layers import knot_of, layers_of
    >>> most, least = ((0, 0), ((0, 0), (0, 1), (1, 0))), ((0, 0), ((0, 1), (1, 0), (1, 1)))
    >>> layers_of(Book([2], [most])), layers_of(Book([2], [least])), knot_of(Book([2], [most, least]))
    ((((0, 1, 0),), ((0, 0, 1),)), (((0, 0, 1),), ((0, 1, 0),)), ((0, 0, 1), (0, 1, 0)))
'''

BOOKS_AND_STORES = '''
    >>> from makefirst.books import Book, kinds_of, unlike_by
    >>> from makefirst.stores import Store, batch_cells, batch_kind, broken, is_good, row_at
    >>> from makefirst.texts import book_text, read_state, store_text
    >>> rows = [(0, 0), (1, 0), (1, 1), (1, 1)]
    >>> parents = Book((2, 2), [((0, 1), rows)])
    >>> parents.checks, kinds_of(parents), unlike_by(parents, 0, (0, 0), [1, 1])
    ((((0, 1), ((0, 0), (1, 0), (1, 1))),), ((0, 0, 1), (0, 1, 0), (1, 0, 1), (1, 1, 0)), ((0, 0, 1), (1, 0, 1)))
    >>> store = Store(parents, (0, 1, 1), [(0, (0, 1)), (0, (0, 2))])
    >>> is_good(store, (1, 0, 1)), broken(store, (0, 0, 1)), row_at(store, (0, 0, 1), 1)
    (True, (1,), (0, 1))
    >>> batch_cells(store, (0, 0, 0), (1, 0, 1))
    (0, 2)
    >>> batch_kind(store, (0, 0, 0), (1, 0, 1), 2), batch_kind(store, (0, 0, 0), (1, 0, 1), 1)
    ((1, 0, 1), None)
    >>> book_text(parents).split("\\n"), store_text(store).split("\\n")[2:], read_state(store, "1 0 1")
    (['columns 2 2', 'check 0 1: 00 10 11'], ['cells 0 1 1', 'laid 0: 0 1', 'laid 0: 0 2'], (1, 0, 1))
'''

LAYERS_AND_RANKINGS = '''
    >>> from makefirst.books import Book
    >>> from makefirst.layers import is_let, is_ranked, knot_of, knot_papers, layers_of, papers_hold
    >>> from makefirst.rankings import is_ranking, least_ranking, nth_ranking, openings_of, ranking_place, rankings_many
    >>> refers = Book([2, 2], [((0, 1), [(0, 0), (0, 1), (1, 1)])])
    >>> layers_of(refers), is_let(refers, [], (0, 0, 1)), is_let(refers, [(1, 0, 1)], (0, 0, 1))
    ((((0, 1, 0), (1, 0, 1)), ((0, 0, 1), (1, 1, 0))), False, True)
    >>> least_ranking(refers), rankings_many(refers, most=50), nth_ranking(refers, 5, most=50)
    (((0, 1, 0), (1, 0, 1), (0, 0, 1), (1, 1, 0)), 6, ((1, 0, 1), (0, 1, 0), (1, 1, 0), (0, 0, 1)))
    >>> len(openings_of(refers, most=50)), ranking_place(refers, [(1, 0, 1), (0, 0, 1), (0, 1, 0), (1, 1, 0)], most=50)
    (9, 3)
    >>> alike = Book([2], [((0, 0), [(0, 0), (1, 1)])])
    >>> knot_papers(alike), papers_hold(alike, [((0, 0, 1), 0, (0, 0), (1, 1), [1])]), is_ranked(alike, [])
    ((((0, 0, 1), 0, (0, 0), (1, 1), (0,)), ((0, 1, 0), 0, (1, 1), (0, 0), (0,))), True, True)
'''

STRAIGHT = '''
    >>> from makefirst.books import Book
    >>> from makefirst.stores import Store
    >>> from makefirst.straight import first_fault, is_straight, sorted_cells, told_cells
    >>> most, least = ((0, 0), ((0, 0), (0, 1), (1, 0))), ((0, 0), ((0, 1), (1, 0), (1, 1)))
    >>> one = Store(Book([2], [most]), (0, 0, 0), [(0, (0, 1)), (0, (1, 2)), (0, (0, 2))])
    >>> sorted_cells(one, (1, 0, 0), (0, 0, 1)), first_fault(one, (1, 0, 0), (0, 0, 1), [2, 0])
    ((0, 2), (0, 2))
    >>> is_straight(one, (1, 0, 0), (0, 0, 1), [0, 2])
    True
    >>> laid = [(check, (less, more)) for check in (0, 1) for less in (0, 1, 2) for more in (3, 4, 5)]
    >>> store = Store(Book([2], [most, least]), (0,) * 6, laid)
    >>> told_cells(store, (0, 0, 0, 1, 1, 1), (0, 0, 0, 1, 1, 1))
    ()
'''


class Examples(unittest.TestCase):

    def run_all(self, text):
        test = doctest.DocTestParser().get_doctest(text, {}, self.id(), None, 0)
        told = []
        result = doctest.DocTestRunner(verbose=False).run(test, out=told.append)
        self.assertEqual(result.failed, 0, "".join(told))
        self.assertGreater(result.attempted, 3)

    def test_overview(self):
        self.run_all(OVERVIEW)

    def test_books_and_stores(self):
        self.run_all(BOOKS_AND_STORES)

    def test_layers_and_rankings(self):
        self.run_all(LAYERS_AND_RANKINGS)

    def test_straight(self):
        self.run_all(STRAIGHT)


if __name__ == "__main__":
    unittest.main()
