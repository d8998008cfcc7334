"""Lendrule: what is lent, and what the tags let be turned."""
