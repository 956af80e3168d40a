"""Twinrooms: rooms with named doors, and which of them nobody can tell apart."""
