"""The tests of onesymbol."""
