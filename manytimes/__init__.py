"""Manytimes: a game of pairs of numbers, from the greater of which the lesser is taken."""
