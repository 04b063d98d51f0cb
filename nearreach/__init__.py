"""Nearreach: the longest piece, and how far beyond it one must see."""
