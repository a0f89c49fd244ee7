"""Lackword: a moving strip of letters, and the words it lacks."""
