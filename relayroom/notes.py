"""Boards written as texts, and texts read as boards."""

from relayroom.errors import Deep, NoNote
from relayroom.words import MOST_DEPTH, is_deeper

FIGURES = "0123456789"
GROUNDS = {"1": "on", "0": "off"}
CONTACTS = {"r": "relay", "b": "button"}
JOINTS = {"&": "and", "|": "or"}


def shown(board):
    return ";".join([written(word) for word in board])


def written(word):
    kind = word[0]
    if kind == "on":
        return "1"
    if kind == "off":
        return "0"
    if kind == "relay":
        return "r" + str(word[1])
    if kind == "button":
        return "b" + str(word[1])
    if kind == "not":
        return "!" + written(word[1])
    joint = "&" if kind == "and" else "|"
    return "(" + written(word[1]) + joint + written(word[2]) + ")"


def read(text):
    board = [read_word(note) for note in text.split(";")]
    # Only now, since a fault anywhere in the text goes ahead of a word that is too deep.
    if any([is_deeper(word, MOST_DEPTH) for word in board]):
        raise Deep("a word has a depth of at most 8")
    return board


def read_word(note):
    # A pile and no recursion, since the signs may open hundreds of words within one another. It holds the
    # words that are read and the signs that wait; a sign that fits nowhere stays on it to the end.
    pile = []
    for sign in note:
        take_sign(pile, sign)
    if len(pile) != 1 or not isinstance(pile[0], tuple):
        raise NoNote("a word is not written so")
    return pile[0]


def take_sign(pile, sign):
    if sign in FIGURES and pile and pile[-1] in ("r", "b"):
        put_word(pile, (CONTACTS[pile.pop()], FIGURES.index(sign)))
    elif sign in GROUNDS:
        put_word(pile, (GROUNDS[sign],))
    elif sign == ")":
        put_word(pile, closed(pile))
    else:
        pile.append(sign)


def put_word(pile, word):
    whole = word
    while pile and pile[-1] == "!":
        pile.pop()
        whole = ("not", whole)
    pile.append(whole)


def closed(pile):
    if len(pile) < 4:
        raise NoNote("a parenthesis closes what is not open")
    right = pile.pop()
    joint = pile.pop()
    left = pile.pop()
    opening = pile.pop()
    if opening != "(" or joint not in ("&", "|") or not isinstance(left, tuple) or not isinstance(right, tuple):
        raise NoNote("two words and a sign between them stand in parentheses")
    return (JOINTS[joint], left, right)
