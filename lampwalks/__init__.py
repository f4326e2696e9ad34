"""Lampwalks: one walker among lamps on a tree of roads. Import from the modules of this package."""
