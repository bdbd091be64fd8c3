"""Wakeorder: in which order, and when, flights use a strip."""
