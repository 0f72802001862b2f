"""Goldplaces: numbers written by the powers of the golden number."""
