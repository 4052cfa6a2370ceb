"""Skypasses: what satellites look at, and none better."""
