"""Unbrokenrows: tables whose columns can be laid so that every row stands in one piece."""
