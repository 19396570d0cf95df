"""Relayroom: relays that pull and drop one at a time, in any order, and whether they come to rest."""
