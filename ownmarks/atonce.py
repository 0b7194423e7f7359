"""Rounds with weights, on all full pages of a crowd at once.

A mask is an integer with one bit for each full page, from the lowest one on in the ascending order of the tuples of
their marks. A number that each page has is told by its binary figures, the lowest one first: the masks of the pages on
which they are 1. Levels are the masks of the pages on which none or more are ahead of somebody, one or more, and so on.
"""

from ownmarks.basics import all_tuples, item_in_turn, power
from ownmarks.rules import places_by_list
from ownmarks.scores import turned_tops


def again_and_again(pages, many, every):
    """The mask that has of each so many pages, one behind another, those that are told of the first ones."""
    return every // ((1 << many) - 1) * pages


def masks_of_rows(many, rows, every):
    """For each of so many markers, in order, the masks of the pages with each of its so many rows."""
    steps = [power(rows, many - 1 - place) for place in range(many)]
    parts = [again_and_again((1 << step) - 1, rows * step, every) for step in steps]
    return [[part << step * row for row in range(rows)] for step, part in zip(steps, parts)]


def marks_of_page(crowd, number):
    """The marks of a page, in the order of the pairs, by how many pages stand ahead of it."""
    told = []
    for _ in crowd.pairs():
        told = [number % (crowd.most + 1), *told]
        number = number // (crowd.most + 1)
    return told


def folded(masks):
    """What masks make together, as a tuple: the lowest figure, and masks that count twice as much."""
    figure, carried = 0, []
    for mask in masks:
        if figure & mask:
            carried.append(figure & mask)
        figure = figure ^ mask
    return (figure, carried)


def total_of(said, often, many):
    """So many figures of the total of what is said, tuples (marker, figure, mask), as often as told for each marker."""
    columns = [[] for _ in range(many)]
    for marker, figure, mask in said:
        for at, times in enumerate(often[marker]):
            columns[figure + at].append(mask & times)
    told, carried = [], []
    for column in columns:
        lowest, carried = folded([*column, *carried])
        told.append(lowest)
    return told


def pages_ahead(one, other, ahead):
    """The mask of the pages on which the one number is greater; where both are equal, ahead tells it."""
    for figure, beside in zip(one, other):
        ahead = ahead ^ (figure ^ beside) & (ahead ^ figure)
    return ahead


def with_one_more(levels, mask):
    """The levels behind one more rival, who is ahead on the pages of a mask."""
    return [levels[0], *[level | less & mask for level, less in zip([*levels[1:], 0], levels)]]


def levels_by(totals, every):
    """The levels of people with some totals, in order: who has more is ahead, and who has as much and is earlier."""
    told = [[every] for _ in totals]
    for at, total in enumerate(totals):
        for one in range(at):
            ahead = pages_ahead(totals[one], total, every)
            told[at] = with_one_more(told[at], ahead)
            told[one] = with_one_more(told[one], every ^ ahead)
    return told


def growths_of(weights):
    """For each binary figure by how much it grows from each of some weights to the next one, from nought on."""
    both, many = list(zip([0, *weights], weights)), max(weights).bit_length()
    return [[(weight >> at & 1) - (ahead >> at & 1) for ahead, weight in both] for at in range(many)]


def rows_from_nought(rule):
    """The tuple (what full rows say of the others, what is said where nothing is read), raised to be from nought on."""
    # Full rows turn to tops over the same bottom, so that the tops alone tell the ranks. They tell the same ones if all
    # that a row says is raised by the same.
    rows = [turned_tops(rule.turn, marks)[0] for marks in all_tuples(rule.crowd.most, len(rule.crowd) - 1)]
    least = min([min(row) for row in rows])
    return ([[top - least for top in row] for row in rows], -least)


def rows_by_figure(rows, spot, many):
    """For each of so many figures of what rows say at a spot, those that have it."""
    return [[at for at, row in enumerate(rows) if row[spot] >> figure & 1] for figure in range(many)]


class AllPages:
    """The rounds of a rule that has a list of two or more, with weights, on all full pages."""

    def __init__(self, rule, weights):
        many = len(rule.crowd)
        self._crowd = rule.crowd
        self._every = (1 << power(rule.crowd.most + 1, many * (many - 1))) - 1
        self._lists = places_by_list(rule)
        counted = weights[:max([len(places) for places in self._lists])]
        self._growths = growths_of(counted)
        rows, unread = rows_from_nought(rule)
        greatest = max([max(row) for row in rows])
        self._total_figures = (max([1, *counted]) * greatest * many).bit_length()
        masks = masks_of_rows(many, len(rows), self._every)
        spots = [rows_by_figure(rows, spot, greatest.bit_length()) for spot in range(many - 1)]
        ranked = [place for places in self._lists for place in places]
        self._said = {place: self._said_of(rule, place, masks, spots, unread) for place in ranked}

    def _said_of(self, rule, place, masks, spots, unread):
        """The list of the tuples (marker, figure, mask) of what is said of the one at a place."""
        people = rule.crowd.people
        readers = rule.readers(people[place])
        told = []
        for marker, by_row in enumerate(masks):
            if people[marker] in readers:
                found = spots[place if place < marker else place - 1]
                told += [(marker, at, sum([by_row[row] for row in having])) for at, having in enumerate(found)]
            else:
                told += [(marker, at, self._every) for at in range(unread.bit_length()) if unread >> at & 1]
        return told

    def _levels(self, often):
        """A dict from the places in lists of two or more to levels, in a round in which rows count so often."""
        told = {}
        for places in self._lists:
            totals = [total_of(self._said[place], often, self._total_figures) for place in places]
            for place, levels in zip(places, levels_by(totals, self._every)):
                told[place] = levels
        return told

    def _often_behind(self, often):
        """How often rows count, by figures, in the round behind one in which they count so often."""
        found = self._levels(often)
        told = []
        for place in range(len(self._crowd)):
            # Nobody is ahead of who is alone in a list.
            levels = found.get(place, [self._every])
            # Each level lies within the one before, so that a weight is what all that are reached grow together.
            told.append([sum([growth * level for growth, level in zip(row, levels)]) for row in self._growths])
        return told

    def _levels_in(self, number):
        """The levels in a round."""
        told = [[[self._every]] * len(self._crowd)]
        while len(told) < number:
            after = self._often_behind(told[-1])
            if after in told:
                return self._levels(item_in_turn(told, told.index(after), number))
            told.append(after)
        return self._levels(told[-1])

    def harming_marks(self, pair, number):
        """The marks of the first page on which one mark more of the pair makes a rank worse in a round, or None."""
        pairs, most = self._crowd.pairs(), self._crowd.most
        # So many pages further on stands the page with the mark that is one greater.
        step = power(most + 1, len(pairs) - 1 - pairs.index(pair))
        lesser = again_and_again((1 << most * step) - 1, (most + 1) * step, self._every)
        harmed = 0
        for level in self._levels_in(number)[self._crowd.place(pair[1])]:
            harmed = harmed | (level >> step) & (level ^ self._every) & lesser
        return marks_of_page(self._crowd, (harmed & -harmed).bit_length() - 1) if harmed else None
