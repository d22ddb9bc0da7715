"""Marblefall: boards of turning wheels down which marbles fall."""
