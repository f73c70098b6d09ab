"""Spreadwords: texts known by the short words that lie spread in them."""
