"""Plainstore: a small store whose parts meet."""
