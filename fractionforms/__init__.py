"""Fractions in every form: read, written, compared and reckoned with."""
