"""Twopartings: a company parted in two, and again in two."""
