"""Onesymbol: one canonical symbol for each kind."""
