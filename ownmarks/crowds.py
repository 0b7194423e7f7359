"""Crowds: the people who mark one another, in their order, and the greatest mark."""

from ownmarks.basics import is_integer_within, is_word
from ownmarks.errors import BadArgument, BadCrowd, NotThere

MOST_PEOPLE = 8
GREATEST_MARK = 10


def are_people(value):
    if not isinstance(value, (list, tuple)) or not 1 <= len(value) <= MOST_PEOPLE:
        return False
    # Only words can be looked for doubles: other values may be no members of a set.
    return all([is_word(person) for person in value]) and len(set(value)) == len(value)


class Crowd:
    """One to eight people, unlike words, and the greatest mark."""

    def __init__(self, people, most):
        if not are_people(people):
            raise BadCrowd("people")
        if not is_integer_within(most, 1, GREATEST_MARK):
            raise BadCrowd("most")
        self._people = list(people)
        self.most = most

    @property
    def people(self):
        return list(self._people)

    def __len__(self):
        return len(self._people)

    def __contains__(self, x):
        return isinstance(x, str) and x in self._people

    def __iter__(self):
        return iter(self._people)

    def __eq__(self, other):
        return isinstance(other, Crowd) and self.most == other.most and self._people == other._people

    def place(self, person):
        """How many people are earlier than this one."""
        need_person(self, person)
        return self._people.index(person)

    def pairs(self):
        """All pairs, by the marker, then by the marked one."""
        return [(marker, marked) for marker in self._people for marked in self._people if marker != marked]

    def is_pair(self, value):
        """Whether any value is a pair of this crowd."""
        if not isinstance(value, tuple) or len(value) != 2:
            return False
        return value[0] in self and value[1] in self and value[0] != value[1]


def need_crowd(crowd):
    """Raise BadArgument(crowd) for what is no Crowd."""
    if not isinstance(crowd, Crowd):
        raise BadArgument(crowd)


def need_person(crowd, person):
    """Raise NotThere(person) for what is nobody of the crowd."""
    if person not in crowd:
        raise NotThere(person)


def are_some_people(crowd, value):
    """Whether any value is a list or tuple of unlike people of the crowd, perhaps none."""
    if not isinstance(value, (list, tuple)) or not all([person in crowd for person in value]):
        return False
    return len(set(value)) == len(value)
