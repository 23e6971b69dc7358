"""Flashtrees: files on raw flash, whatever is cut, again and again."""
