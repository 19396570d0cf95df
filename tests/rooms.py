"""What the tests share: words, boards, and a reckoning of moves and rests that draws on nothing of the program."""

import copy
import itertools

ON = ("on",)
OFF = ("off",)
R0, R1, R2, R3, R4, R5 = [("relay", k) for k in range(6)]
B0, B1, B2, B3 = [("button", k) for k in range(4)]


def no(word):
    return ("not", word)


def both(one, other):
    return ("and", one, other)


def either(one, other):
    return ("or", one, other)


def row(number, count):
    """The stand, or the pressed, of a number."""
    return tuple(number // 2 ** k % 2 == 1 for k in range(count))


def rows(count):
    return [row(number, count) for number in range(2 ** count)]


def places(board, buttons):
    """Every pressed with every stand of a board."""
    return [(pressed, stand) for pressed in rows(buttons) for stand in rows(len(board))]


def fed(word, stand, pressed):
    if word[0] in ("relay", "button"):
        return (stand if word[0] == "relay" else pressed)[word[1]]
    values = [fed(part, stand, pressed) for part in word[1:]]
    return {"on": all, "off": any, "and": all, "or": any, "not": lambda one: not one[0]}[word[0]](values)


def flipped(stand, relay):
    there = list(stand)
    there[relay] = not there[relay]
    return tuple(there)


def can_move(board, pressed, stand):
    return [k for k, word in enumerate(board) if fed(word, stand, pressed) is not stand[k]]


def onward(board, pressed, stand):
    return [flipped(stand, k) for k in can_move(board, pressed, stand)]


def graph(board, pressed):
    """Each stand of the board with the stands that one move leads to."""
    return {stand: onward(board, pressed, stand) for stand in rows(len(board))}


def come_to(leads, stands):
    """All stands that can be come to from some, these among them."""
    known, fresh = set(), set(stands)
    while fresh:
        known |= fresh
        fresh = {there for here in fresh for there in leads[here]} - known
    return known


def rings_and_rests(leads, stand):
    """Whether a ring can be come to from a stand, and which rests."""
    known = come_to(leads, [stand])
    ring = any(here in come_to(leads, leads[here]) for here in known)
    return ring, [here for here in known if not leads[here]]


def rest_of(leads, stand):
    """The rest at which a stand settles, or None."""
    ring, ends = rings_and_rests(leads, stand)
    return ends[0] if not ring and len(ends) == 1 else None


def walk(test, board, pressed, stand, moves):
    """The stand behind the moves; the test fails at one that can't be made."""
    test.assertIs(type(moves), list)
    for relay in moves:
        test.assertIs(type(relay), int)
        test.assertIn(relay, can_move(board, pressed, stand))
        stand = flipped(stand, relay)
    return stand


def assert_stand(test, stand, relays):
    test.assertIs(type(stand), tuple)
    test.assertEqual([type(value) for value in stand], [bool] * relays)


def assert_refused(test, refusal, call, *handed):
    """That the call is refused with just this class, and that what was handed in is as before."""
    before = copy.deepcopy(handed)
    with test.assertRaises(refusal) as caught:
        call(*handed)
    test.assertIs(type(caught.exception), refusal)
    test.assertEqual(handed, before)


def told(test, call, *handed):
    """What the call tells; what was handed in must be as before."""
    before = copy.deepcopy(handed)
    answer = call(*handed)
    test.assertEqual(handed, before)
    return answer


def depth_of(word):
    return 1 + max([depth_of(part) for part in word[1:] if isinstance(part, tuple)], default=0)


def deepened(word, depth):
    """The word with pairs of nots, and at times one with on, put round it, to be of the depth and alike."""
    while depth_of(word) + 2 <= depth:
        word = no(no(word))
    return both(ON, word) if depth_of(word) < depth else word


def joined(kind, words):
    """The words put together in halves, so that the depth stays small."""
    if len(words) == 1:
        return words[0]
    middle = len(words) // 2
    return (kind, joined(kind, words[:middle]), joined(kind, words[middle:]))


def table_word(stands, relays):
    """A word that is True at just these stands."""
    each = [joined("and", [("relay", k) if stand[k] else no(("relay", k)) for k in range(relays)]) for stand in stands]
    return joined("or", each) if each else OFF


def table_board(feeds, relays):
    """A board of up to 4 relays; feeds has with each stand which relays are fed there."""
    return [table_word([stand for stand in feeds if feeds[stand][k]], relays) for k in range(relays)]


def count_board(relays, last):
    """A board that goes through all its stands in one row, one relay at a time; last is what feeds the last of them."""
    row_of_stands = [row(number ^ number // 2, relays) for number in range(2 ** relays)]
    return row_of_stands, table_board(dict(zip(row_of_stands, row_of_stands[1:] + [row_of_stands[last]])), relays)


LATCH = [both(either(B0, R0), no(B1))]
BUZZER = [no(R0)]
HOLD = [R0]
# Two relays that keep each other from pulling: from no relay pulled, the first to pull wins.
RIVALS = [no(R1), no(R0)]
# From no relay pulled both rests of the rivals can be come to, and relay 2 buzzes until one of them has pulled.
RIVALS_AND_BUZZER = [no(R1), no(R0), both(no(R2), no(either(R0, R1)))]
# One rest alone can be come to from no relay pulled, but once relay 1 is pulled relay 2 buzzes for ever.
REST_OR_BUZZER = [no(R1), no(R0), both(no(R2), no(R0))]
CHASE = [no(R2), R0, R1]
CHAIN = [B0, R0, R1, R2, R3, R4]
HOLD_SIX = [R0, R1, R2, R3, R4, R5]
# The buzzer runs only once relays 0 and 1 are pulled, one behind the other.
LATE_BUZZER = [ON, R0, both(R1, no(R2))]
RING_OF_SIX = [no(R5), R0, R1, R2, R3, R4]

BOARDS = [
    ([ON], 0), ([OFF], 0), (HOLD, 0), (BUZZER, 0), (LATCH, 2), ([B3], 4), ([either(R0, both(B0, no(B3)))], 4),
    (RIVALS, 0), ([no(either(R1, B0)), no(either(R0, B1))], 2), ([R1, R0], 0), ([no(R1), R0], 0),
    (RIVALS_AND_BUZZER, 0), (REST_OR_BUZZER, 0), (CHASE, 0), (LATE_BUZZER, 0), ([B0, no(R0), both(R0, R1)], 1),
    ([either(R1, R2), both(R0, R2), no(either(R0, R1))], 0),
    ([both(B0, no(R3)), R0, either(R1, B1), both(R2, R0)], 2), ([no(R1), no(R0), no(R3), no(R2)], 0),
    ([B0, both(R0, no(R1)), R1, either(R3, R2)], 1),
    ([B0, R0, both(R1, B1), no(R2), either(R3, R4)], 2), ([R4, R0, R1, R2, R3], 0),
    ([no(R1), no(R0), either(R0, R1), both(R2, no(R4)), both(R2, no(R3))], 0),
    (CHAIN, 1), (HOLD_SIX, 0), (RING_OF_SIX, 0),
    ([no(R1), no(R0), both(R0, B0), either(R2, R1), both(R3, no(B1)), either(R4, R5)], 2),
    ([deepened(either(R5, B3), 8), B0, B1, B2, deepened(no(R0), 7), R4], 4),
]


def small_boards():
    """All boards of two relays, and some of three, whose words are from a short list; with one button."""
    pool = [ON, OFF, R0, R1, B0, no(R0), no(R1), no(B0), both(R0, R1), either(R0, B0), both(no(R0), B0),
            either(R0, no(R1))]
    found = [[one, other] for one in pool for other in pool]
    three = [R0, R2, no(R1), no(R2), either(R0, both(R1, B0)), both(no(R2), either(R0, R1))]
    return found + [list(words) for words in itertools.product(three, repeat=3)]
