"""Ownboxes: people who seek their own names in closed boxes."""
