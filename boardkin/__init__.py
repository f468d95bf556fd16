"""Boards of coloured cells, alike by turning, mirroring and sliding."""
