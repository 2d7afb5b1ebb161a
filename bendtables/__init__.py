"""Bendtables: tables of whole numbers that bend one way."""
