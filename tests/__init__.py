"""The tests of farhail."""
