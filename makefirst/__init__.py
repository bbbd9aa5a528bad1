"""Makefirst: batches of changes let in one at a time, and the one order that always works."""
