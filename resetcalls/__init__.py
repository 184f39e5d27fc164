"""Resetcalls: rows of letters that bring all to one hall."""
