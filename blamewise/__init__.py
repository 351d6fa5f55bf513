"""Blamewise: told kinds and untold ones, and who is to blame."""
