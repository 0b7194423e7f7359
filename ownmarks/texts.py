"""Rules and pages as texts, and back."""

from ownmarks.basics import is_word
from ownmarks.crowds import Crowd
from ownmarks.errors import BadArgument, BadText, MarksError
from ownmarks.pages import Page
from ownmarks.rules import Rule, need_rule

DIGITS = "0123456789"
MOST_DIGITS = 4
MISSING = "-"
# With what the first lines of a rule begin; lists and reads may follow.
FIRST_HEADS = ("crowd", "turn", "gather", "prizes", "list")


def line_of(words):
    return " ".join(words)


def crowd_line(crowd):
    return line_of(["crowd", str(crowd.most), *crowd.people])


def gather_line(rule):
    return line_of(["gather", rule.gather] + ([str(rule.trim)] if rule.gather == "trim" else []))


def read_lines(rule):
    """For each person of whose pairs some are read, a line with the people whom it marks by them."""
    told = []
    for person in rule.crowd.people:
        marked = [pair[1] for pair in rule.reads if pair[0] == person]
        if len(marked) > 0:
            told.append(line_of(["read", person, *marked]))
    return told


def rule_text(rule):
    """The rule as a text."""
    need_rule(rule)
    turn, prizes = line_of(["turn", rule.turn]), line_of(["prizes", str(rule.prizes)])
    lists = [line_of(["list", *members]) for members in rule.lists]
    return "\n".join([crowd_line(rule.crowd), turn, gather_line(rule), prizes, *lists, *read_lines(rule)])


def page_text(page):
    """The page as a text."""
    if not isinstance(page, Page):
        raise BadArgument(page)
    lines = [crowd_line(page.crowd)]
    for person in page.crowd.people:
        marks = [MISSING if mark is None else str(mark) for mark in page.row(person).values()]
        lines.append(line_of(["row", person, *marks]))
    return "\n".join(lines)


def is_number_word(word):
    """Whether a text is an integer of at most four digits, without zeros ahead."""
    if not 1 <= len(word) <= MOST_DIGITS or not all([sign in DIGITS for sign in word]):
        return False
    return len(word) == 1 or word[0] != "0"


def are_words(words, least, most):
    """Whether these are words of the document, from the least number of them to the most."""
    return least <= len(words) <= most and all([is_word(word) for word in words])


def has_form(head, rest):
    """Whether what stands behind the head of a line is as the document writes it."""
    if head == "crowd":
        return len(rest) > 0 and is_number_word(rest[0]) and are_words(rest[1:], 1, len(rest))
    if head == "turn":
        return are_words(rest, 1, 1)
    if head == "gather":
        return are_words(rest[:1], 1, 1) and len(rest) <= 2 and all([is_number_word(word) for word in rest[1:]])
    if head == "prizes":
        return len(rest) == 1 and is_number_word(rest[0])
    if head == "list":
        return are_words(rest, 1, len(rest))
    if head == "read":
        return are_words(rest, 2, len(rest))
    return are_words(rest[:1], 1, 1) and all([word == MISSING or is_number_word(word) for word in rest[1:]])


def need_form(lines, at, heads):
    """Raise BadText(at) if this line of the words of lines has none of the heads, or not its form."""
    words = lines[at]
    if words[0] not in heads or not has_form(words[0], words[1:]):
        raise BadText(at)


def words_by_line(text):
    """The list of the lists of the words of each line; raise BadText(0) for what is no text."""
    if not isinstance(text, str):
        raise BadText(0)
    return [line.split(" ") for line in text.split("\n")]


def rule_by(lines):
    """The rule that lines of the right forms make."""
    crowd, turn, gather, prizes = lines[:4]
    return Rule(
        Crowd(crowd[2:], int(crowd[1])),
        turn=turn[1],
        reads=[(words[1], marked) for words in lines if words[0] == "read" for marked in words[2:]],
        gather=gather[1],
        trim=int(gather[2]) if len(gather) > 2 else 0,
        lists=[words[1:] for words in lines if words[0] == "list"],
        prizes=int(prizes[1]),
    )


def read_rule(text):
    """The rule that has just this text."""
    lines = words_by_line(text)
    for at in range(len(lines)):
        if at < len(FIRST_HEADS):
            need_form(lines, at, FIRST_HEADS[at:at + 1])
        else:
            need_form(lines, at, ("read",) if lines[at - 1][0] == "read" else ("list", "read"))
    if len(lines) < len(FIRST_HEADS):
        raise BadText(len(lines))
    try:
        rule = rule_by(lines)
    except MarksError:
        raise BadText(None) from None
    if rule_text(rule) != text:
        raise BadText(None)
    return rule


def page_by(lines):
    """The page that lines of the right forms make."""
    crowd = Crowd(lines[0][2:], int(lines[0][1]))
    marks = {}
    for words in lines[1:]:
        others = [person for person in crowd.people if person != words[1]]
        for other, word in zip(others, words[2:]):
            marks[words[1], other] = None if word == MISSING else int(word)
    return Page(crowd, marks)


def read_page(text):
    """The page that has just this text."""
    lines = words_by_line(text)
    need_form(lines, 0, ("crowd",))
    for at in range(1, len(lines)):
        need_form(lines, at, ("row",))
    try:
        page = page_by(lines)
    except MarksError:
        raise BadText(None) from None
    if page_text(page) != text:
        raise BadText(None)
    return page
