"""Texts read in the wrong code, and what of them can be told back."""
