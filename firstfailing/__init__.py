"""Firstfailing: what rows of shrinking steps find, for all tests at once."""
