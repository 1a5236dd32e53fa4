"""Feedreader: feeds that are published, fetched, gathered and kept."""
