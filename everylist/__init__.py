"""Everylist: loops over lists of rows, decided for all lists."""
