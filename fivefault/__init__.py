"""Fivefault: inequalities between terms, decided with certificates."""
