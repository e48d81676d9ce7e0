"""Lesserhall: each shows how many lesser ones it sees."""
