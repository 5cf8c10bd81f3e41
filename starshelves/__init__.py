"""Starshelves: shelves that mend, hide who asks, and answer by one star."""
