"""Whether two rules with plain rows rank alike on all full pages."""

from math import comb

from ownmarks.basics import lowest_terms
from ownmarks.crowds import need_person
from ownmarks.errors import BadArgument, TooMany
from ownmarks.pages import page_with
from ownmarks.rules import Rule, need_plain_rule
from ownmarks.scores import kept

MOST_MULTISETS = 20000
# Somebody has at most seven readers: scores are integers if multiplied by this.
SCALE = 420


def need_two_rules(one, other):
    """Raise BadArgument for what are no two Rules with plain rows, of the same crowd and with the same lists."""
    need_plain_rule(one)
    if not isinstance(other, Rule) or other.turn != "plain" or other.crowd != one.crowd or other.lists != one.lists:
        raise BadArgument(other)


def split_readers(one, other, person):
    """The tuple (readers by both rules, by one alone, by other alone)."""
    ones, others = one.readers(person), other.readers(person)
    both = [reader for reader in ones if reader in others]
    alone = [reader for reader in ones if reader not in both]
    return (both, alone, [reader for reader in others if reader not in both])


def shape_of(one, other, person):
    """The tuple of how many readers somebody has by both rules, by one alone and by other alone."""
    both, ones, others = split_readers(one, other, person)
    return (len(both), len(ones), len(others))


def need_few_multisets(crowd, shape):
    """Raise TooMany(20000) if there are more multisets of the marks of so many readers."""
    told = 1
    for many in shape:
        told = told * comb(many + crowd.most, many)
    if told > MOST_MULTISETS:
        raise TooMany(MOST_MULTISETS)


def multisets(most, many):
    """The list of all multisets of so many marks, ascending tuples."""
    told = [()]
    for _ in range(many):
        told = [row + (mark,) for row in told for mark in range(row[-1] if len(row) > 0 else 0, most + 1)]
    return told


def scores_with(rule, marks, more):
    """A dict from scores, multiplied by SCALE, to the first one of some multisets that makes it with these marks."""
    many = len(marks) + len(more[0])
    start, stop = kept(rule.gather, rule.trim, many)
    each = SCALE if rule.gather == "sum" else SCALE // (stop - start)
    told = {}
    for others in more:
        told.setdefault(sum(sorted(marks + others)[start:stop]) * each, others)
    return told


def pairs_of_scores(one, other, shape):
    """A dict from pairs of scores, multiplied by SCALE, to marks of the readers by both, by one and by other alone."""
    # What the readers by one rule alone mark does not hang on what those by the other one alone do.
    most = one.crowd.most
    both, ones, others = [multisets(most, many) for many in shape]
    told = {}
    for marks in both:
        by_other = scores_with(other, marks, others)
        for score, mine in scores_with(one, marks, ones).items():
            for more, theirs in by_other.items():
                told.setdefault((score, more), (marks, mine, theirs))
    return told


def score_pairs(one, other, person):
    """The list of the pairs of scores, by one rule and by the other one, that somebody can have on full pages."""
    need_two_rules(one, other)
    need_person(one.crowd, person)
    shape = shape_of(one, other, person)
    need_few_multisets(one.crowd, shape)
    if len(one.readers(person)) == 0 or len(other.readers(person)) == 0:
        return []
    found = sorted(list(pairs_of_scores(one, other, shape)))
    return [(lowest_terms(score, SCALE), lowest_terms(more, SCALE)) for score, more in found]


def extremes(pairs):
    """A dict from the scores by one rule to the least and the greatest score by the other one beside each."""
    told = {}
    for score, more in pairs:
        least, greatest = told.get(score, (more, more))
        told[score] = (min(least, more), max(greatest, more))
    return told


def unlike_scores(ones, others):
    """Pairs of scores of an earlier and a later one by which one rule alone has the earlier one ahead, or None."""
    for score, (low, high) in ones.items():
        for more, (least, greatest) in others.items():
            if score >= more and low < greatest:
                return ((score, low), (more, greatest))
            if score < more and high >= least:
                return ((score, high), (more, least))
    return None


def marks_of_readers(one, other, person, marks):
    """A dict from the pairs of somebody's readers to the marks of those by both rules, by one, by other alone."""
    told = {}
    for readers, row in zip(split_readers(one, other, person), marks):
        for reader, mark in zip(readers, row):
            told[reader, person] = mark
    return told


def found_parting(one, other):
    """A dict from some pairs to marks with which two members of a list rank unlike, None if no marks do that."""
    ranked = [members for members in one.lists if len(members) > 1]
    shapes = {person: shape_of(one, other, person) for members in ranked for person in members}
    for shape in shapes.values():
        need_few_multisets(one.crowd, shape)
    # What scores somebody can have hangs on the numbers of its readers alone.
    pairs = {}
    for shape in shapes.values():
        if shape not in pairs:
            pairs[shape] = pairs_of_scores(one, other, shape)
    spans = {shape: extremes(list(told)) for shape, told in pairs.items()}
    unlike = {}
    for members in ranked:
        for at, person in enumerate(members):
            for rival in members[at + 1:]:
                both = (shapes[person], shapes[rival])
                if both not in unlike:
                    unlike[both] = unlike_scores(spans[shapes[person]], spans[shapes[rival]])
                if unlike[both] is not None:
                    mine, theirs = unlike[both]
                    told = marks_of_readers(one, other, person, pairs[shapes[person]][mine])
                    told.update(marks_of_readers(one, other, rival, pairs[shapes[rival]][theirs]))
                    return told
    return None


def alike(one, other):
    """Whether the ranks of all people are the same by both rules on each full page."""
    need_two_rules(one, other)
    return found_parting(one, other) is None


def parting(one, other):
    """A full page on which the ranks by the two rules differ, or None."""
    need_two_rules(one, other)
    found = found_parting(one, other)
    return None if found is None else page_with(one.crowd, found)
