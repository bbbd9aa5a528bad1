"""A store of a ranked book with a batch that needs as many rounds as the book has layers."""

from makefirst.books import kinds_of
from makefirst.choices import most_places, paper_patterns, store_of_fates, told_fates
from makefirst.errors import Refused, TooGreat
from makefirst.layers import least_papers, lot_of, sure_layers
from makefirst.stores import MOST_CELLS


def layers_of_some(book):
    """The layers of the book; Knotted for one that is not ranked, Refused for one without kinds."""
    layers = sure_layers(book)
    if not layers:
        raise Refused(book)
    return layers


def slow_papers(book):
    """For each kind behind the first layer the least paper that bars it but for the layer just ahead."""
    layers = layers_of_some(book)
    free = lot_of(book, kinds_of(book))
    found = []
    for ahead, layer in zip(layers, layers[1:]):
        papers = least_papers(book, free)
        found.extend([papers[kind] for kind in layer])
        free -= lot_of(book, ahead)
    return tuple(sorted(found))


def slow_store(book):
    """(store, old, new) of which no plan has fewer rounds than the book has layers.

    TooGreat(200) or TooGreat(4000) if more cells or laid checks than that are wanted.
    """
    layers = layers_of_some(book)
    patterns = paper_patterns(book, slow_papers(book))
    spare = most_places(book) - 1
    fates = told_fates(kinds_of(book), (len(layers) - 1) * spare + 1, patterns, spare)
    if len(fates) > MOST_CELLS:
        raise TooGreat(MOST_CELLS)
    return store_of_fates(book, fates, patterns)
