"""The words of a board: looked through, their worth, and the first place at which two of them differ."""

from relayroom.errors import Deep, NoContact, TooMany

MOST_RELAYS = 6
MOST_BUTTONS = 4
MOST_DEPTH = 8


def looked(board, buttons):
    relays = len(board)
    if relays < 1 or relays > MOST_RELAYS:
        raise TooMany("a board has 1 to 6 relays")
    if buttons < 0 or buttons > MOST_BUTTONS:
        raise TooMany("there are 0 to 4 buttons")
    # Two walks, since a deep word at the board's end goes ahead of a missing contact at its start.
    for word in board:
        if is_deeper(word, MOST_DEPTH):
            raise Deep("a word has a depth of at most 8")
    for word in board:
        if lacks_contact(word, relays, buttons):
            raise NoContact("a contact is of a relay or a button that is not there")
    return relays


def parts(word):
    if word[0] in ("not", "and", "or"):
        return word[1:]
    return ()


def is_deeper(word, depth):
    # Counted down, so that a word far too deep is not walked to its ground.
    if depth == 0:
        return True
    return any([is_deeper(part, depth - 1) for part in parts(word)])


def lacks_contact(word, relays, buttons):
    if word[0] == "relay":
        return word[1] < 0 or word[1] >= relays
    if word[0] == "button":
        return word[1] < 0 or word[1] >= buttons
    return any([lacks_contact(part, relays, buttons) for part in parts(word)])


def worth(word, stand, pressed):
    kind = word[0]
    if kind == "on":
        return True
    if kind == "off":
        return False
    if kind == "relay":
        return stand[word[1]]
    if kind == "button":
        return pressed[word[1]]
    if kind == "not":
        return not worth(word[1], stand, pressed)
    if kind == "and":
        return worth(word[1], stand, pressed) and worth(word[2], stand, pressed)
    return worth(word[1], stand, pressed) or worth(word[2], stand, pressed)


def unlike(one, other, relays, buttons):
    stands = all_rows(relays)
    for pressed in all_rows(buttons):
        for stand in stands:
            if worth(one, stand, pressed) != worth(other, stand, pressed):
                return (stand, pressed)
    return None


def all_rows(count):
    # Each new place weighs more than all before it, so the rows stay in the order of their numbers.
    rows = [()]
    for place in range(count):
        rows = [row + (False,) for row in rows] + [row + (True,) for row in rows]
    return rows
