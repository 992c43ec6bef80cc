"""The rows that a desk is told: their words, what the words tell, and the words of a rule."""

from wornpages.errors import NoRow
from wornpages.rules import Eldest, Fewest, Follow, Order, Rule, Turned, Window, Worth

FIGURES = "0123456789"
MOST_FIGURES = 40
MOST_TURNS = 10


def words_of(row):
    """The words of a row, which are parted by single blanks."""
    if not isinstance(row, str):
        raise NoRow("a row is a text")
    words = row.split(" ")
    # An empty word comes of a blank at the begin or end, or beside another one.
    if "" in words:
        raise NoRow("words are parted by single blanks")
    return words


def head_of(words):
    """What a row is known by: its first word, or in and the word behind the name of a part."""
    if words[0] == "in" and len(words) > 2:
        return "in " + words[2]
    return words[0]


def rest_of(words):
    """The words of a row beside those that it is known by."""
    if words[0] == "in":
        return words[1:2] + words[3:]
    return words[1:]


def things_of(words, once, again):
    """What words tell. Each sign stands for one word, n for a number, p for a pair of numbers, w for any word: those
    of once stand first, and behind them those of again, any number of times."""
    kinds = once
    while again != "" and len(kinds) < len(words):
        kinds += again
    if len(kinds) != len(words):
        raise NoRow("the row has a word too few or too many")
    return [thing_of(word, kind) for word, kind in zip(words, kinds)]


def thing_of(word, kind):
    if kind == "n":
        return number_of(word)
    if kind == "p":
        return pair_of(word)
    return word


def is_number(word):
    """Whether a word is one to forty figures, the first one no 0 but in 0 itself."""
    if not 1 <= len(word) <= MOST_FIGURES or any([sign not in FIGURES for sign in word]):
        return False
    return word == "0" or word[0] != "0"


def number_of(word):
    """The number that a word tells."""
    if not is_number(word):
        raise NoRow("a number is a word of one to forty figures")
    return int(word)


def pair_of(word):
    """The two numbers that a word tells with a colon between."""
    halves = word.partition(":")
    return (number_of(halves[0]), number_of(halves[2]))


def rule_of(words):
    """The rule that its words tell, made anew."""
    turns = 0
    while turns < len(words) and words[turns] == "turned":
        turns += 1
    if turns > MOST_TURNS:
        raise NoRow("a rule is turned ten times at most")
    rule = unturned_rule(words[turns:])
    for turn in range(turns):
        rule = Turned(rule)
    return rule


def unturned_rule(words):
    """The rule of words that don't begin with turned."""
    if words == []:
        raise NoRow("the words of a rule lack")
    if words[0] == "window":
        return Window(things_of(words[1:], "n", "")[0])
    if words[0] == "follow":
        return Follow(things_of(words[1:], "", "n"))
    if words[0] == "order":
        return Order([rule_of_word(word) for word in words[1:]])
    if len(words) > 1:
        raise NoRow("such a rule has one word")
    return rule_of_word(words[0])


def rule_of_word(word):
    """The rule that one word tells by itself."""
    if word == "plain":
        return Rule()
    if word == "fewest":
        return Fewest()
    if word == "eldest":
        return Eldest()
    if word == "worth":
        return Worth()
    raise NoRow("there is no rule of this word")
