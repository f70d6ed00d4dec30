"""The letters of spellings, and the characters of integers and identifiers."""

BUILTIN_LETTERS = {"int": "i", "bool": "b", "char": "c", "real": "r", "void": "v"}
BUILTIN_WORDS = {"i": "int", "b": "bool", "c": "char", "r": "real", "v": "void"}

# The kinds that consist of one other kind and nothing else.
WRAPPER_LETTERS = {"pointer": "P", "reference": "R", "const": "K"}
WRAPPER_WORDS = {"P": "pointer", "R": "reference", "K": "const"}

# What a kind may begin with, apart from the Z of a back reference.
KIND_LETTERS = "ibcrvqPRKAFN"

DIGITS = "0123456789"
DIGITS_ABOVE_ZERO = "123456789"
IDENTIFIER_BEGIN = "abcdefghijklmnopqrstuvwxyzABCDEFGHIJKLMNOPQRSTUVWXYZ_"
IDENTIFIER_LETTERS = "abcdefghijklmnopqrstuvwxyzABCDEFGHIJKLMNOPQRSTUVWXYZ_0123456789"
LONGEST_IDENTIFIER = 30
