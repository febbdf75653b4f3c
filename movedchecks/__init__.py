"""Movedchecks: programs whose checks a compiler moves."""
