"""Boards: which relays can move at a stand, moves that are walked, the rests, and two boards side by side."""

from relayroom.errors import NoRelay, Still, TooMany
from relayroom.words import MOST_RELAYS, all_rows, parts, worth


def movable(board, pressed, stand):
    return [relay for relay in range(len(board)) if can_move(board, pressed, stand, relay)]


def can_move(board, pressed, stand, relay):
    return worth(board[relay], stand, pressed) != stand[relay]


def moved(stand, relay):
    return stand[:relay] + (not stand[relay],) + stand[relay + 1:]


def walked(board, pressed, stand, moves):
    here = stand
    for relay in moves:
        if relay < 0 or relay >= len(board):
            raise NoRelay("a move is of a relay that is not there")
        if not can_move(board, pressed, here, relay):
            raise Still("a move is of a relay that can't move there")
        here = moved(here, relay)
    return here


def rests(board, pressed):
    return [stand for stand in all_rows(len(board)) if not movable(board, pressed, stand)]


def beside(one, buttons, other):
    relays = len(one)
    if relays + len(other) > MOST_RELAYS:
        raise TooMany("a board has at most 6 relays")
    return list(one) + [numbered_on(word, relays, buttons) for word in other]


def numbered_on(word, relays, buttons):
    kind = word[0]
    if kind == "relay":
        return (kind, word[1] + relays)
    if kind == "button":
        return (kind, word[1] + buttons)
    return (kind,) + tuple([numbered_on(part, relays, buttons) for part in parts(word)])
