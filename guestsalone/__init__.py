"""Guestsalone: houses of guests, each of whom runs as if it were alone."""
