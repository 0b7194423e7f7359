"""Rounds with weights, on all full pages of a crowd at once.

A mask is an integer with one bit for each full page, from the lowest one on in the ascending order of the tuples of
their marks. A number that each page has is told by its figures: the masks of the pages on which its binary figures are
1, the lowest figure first.
"""

from ownmarks.basics import all_tuples, item_in_turn, power
from ownmarks.rules import places_by_list
from ownmarks.scores import turned_tops


def again_and_again(pages, many, every):
    """The mask that has of each so many pages, one behind another, those that are told of the first ones."""
    return every // ((1 << many) - 1) * pages


def masks_of_rows(many, rows, every):
    """For each of so many markers, in order, the masks of the pages with each of its so many rows."""
    steps = [power(rows, many - 1 - place) for place in range(many)]
    parts = [again_and_again((1 << step) - 1, rows * step, every) for step in steps]
    return [[part << step * row for row in range(rows)] for step, part in zip(steps, parts)]


def marks_of_page(crowd, number):
    """The marks of a page, in the order of the pairs, by how many pages stand ahead of it."""
    told = []
    for _ in crowd.pairs():
        told = [number % (crowd.most + 1), *told]
        number = number // (crowd.most + 1)
    return told


def figures_by(masks, numbers, many):
    """So many figures of the number that is, on the pages of each mask, the one beside it."""
    return [sum([mask for mask, number in zip(masks, numbers) if number >> at & 1]) for at in range(many)]


def folded(masks):
    """The sum of masks as a tuple: its lowest figure, and the masks that count twice as much."""
    figure, carried = 0, []
    for mask in masks:
        if figure & mask:
            carried.append(figure & mask)
        figure = figure ^ mask
    return (figure, carried)


def total_of(said, often, many):
    """So many figures of the total of what is said, tuples (marker, figures), as often as told for the marker."""
    columns = [[] for _ in range(many)]
    for marker, figures in said:
        for low, figure in enumerate(figures):
            for high, times in enumerate(often[marker]):
                columns[low + high].append(figure & times)
    told, carried = [], []
    for column in columns:
        figure, carried = folded([*column, *carried])
        told.append(figure)
    return told


def pages_ahead(one, other, ahead):
    """The mask of the pages on which the one number is greater; where both are equal, ahead tells it."""
    for figure, beside in zip(one, other):
        ahead = ahead ^ (figure ^ beside) & (ahead ^ figure)
    return ahead


def rivals_ahead(totals, every):
    """For each of some totals the masks of the pages on which others are ahead: greater, or equal and earlier."""
    spots = range(len(totals))
    told = {(one, at): pages_ahead(totals[one], totals[at], every) for at in spots for one in range(at)}
    return [[told[one, at] if one < at else every ^ told[at, one] for one in spots if one != at] for at in spots]


def levels_of(masks, every):
    """For each number from 0 on, the mask of the pages that so many of some masks have, or more."""
    told = [every]
    for mask in masks:
        told = [level | less & mask for level, less in zip([*told, 0], [every, *told])]
    return told


def growths_of(weights):
    """For each binary figure, by how much it grows from each of some weights to the next one, from nought on."""
    both, many = list(zip([0, *weights], weights)), max(weights).bit_length()
    return [[(weight >> at & 1) - (ahead >> at & 1) for ahead, weight in both] for at in range(many)]


def rows_from_nought(rule):
    """The tuple (what full rows say of the others, what is said where nothing is read), raised to be from nought on."""
    # Full rows turn to tops over the same bottom, so that the tops alone tell the ranks. They tell the same ones if all
    # that a row says is raised by the same.
    rows = [turned_tops(rule.turn, marks)[0] for marks in all_tuples(rule.crowd.most, len(rule.crowd) - 1)]
    least = min([min(row) for row in rows])
    return ([[top - least for top in row] for row in rows], -least)


def numbers_said(rule, place, rows, unread):
    """For each marker, in order, what its rows say of the one at a place."""
    people = rule.crowd.people
    readers = rule.readers(people[place])
    told = []
    for marker, person in enumerate(people):
        spot = place if place < marker else place - 1
        told.append([row[spot] if person in readers else unread for row in rows])
    return told


class AllPages:
    """The rounds of a rule that has a list of two or more, with weights, on all full pages."""

    def __init__(self, rule, weights):
        many = len(rule.crowd)
        self._crowd = rule.crowd
        self._every = (1 << power(rule.crowd.most + 1, many * (many - 1))) - 1
        self._lists = places_by_list(rule)
        counted = weights[:max([len(places) for places in self._lists])]
        self._growths = growths_of(counted)
        rows, unread = rows_from_nought(rule)
        greatest = max([max(row) for row in rows])
        self._total_figures = (max([1, *counted]) * greatest * many).bit_length()
        masks = masks_of_rows(many, len(rows), self._every)
        self._said = {}
        for place in sorted([one for places in self._lists for one in places]):
            said = [(at, told) for at, told in enumerate(numbers_said(rule, place, rows, unread)) if max(told) > 0]
            self._said[place] = [(at, figures_by(masks[at], told, greatest.bit_length())) for at, told in said]

    def _levels(self, often):
        """By places in lists of two or more: for each number from 0 on, where so many are ahead, or more."""
        told = {}
        for places in self._lists:
            totals = [total_of(self._said[place], often, self._total_figures) for place in places]
            for place, masks in zip(places, rivals_ahead(totals, self._every)):
                told[place] = levels_of(masks, self._every)
        return told

    def _often_behind(self, often):
        """The figures of how often each row counts in the round behind one in which rows count so often."""
        found = self._levels(often)
        told = []
        for place in range(len(self._crowd)):
            # Nobody is ahead of who is alone.
            levels = found.get(place, [self._every])
            told.append([sum([growth * level for growth, level in zip(row, levels)]) for row in self._growths])
        return told

    def _levels_in(self, number):
        """What _levels tells of a round."""
        told = [[[self._every]] * len(self._crowd)]
        while len(told) < number:
            after = self._often_behind(told[-1])
            if after in told:
                return self._levels(item_in_turn(told, told.index(after), number))
            told.append(after)
        return self._levels(told[-1])

    def harming_marks(self, pair, number):
        """The marks of the first page on which one mark more of the pair makes a rank worse in a round, or None."""
        pairs, most = self._crowd.pairs(), self._crowd.most
        # So many pages further on stands the page with the mark that is one greater.
        step = power(most + 1, len(pairs) - 1 - pairs.index(pair))
        lesser = again_and_again((1 << most * step) - 1, (most + 1) * step, self._every)
        harmed = 0
        for level in self._levels_in(number)[self._crowd.place(pair[1])]:
            harmed = harmed | (level >> step) & (level ^ self._every) & lesser
        return marks_of_page(self._crowd, (harmed & -harmed).bit_length() - 1) if harmed else None
