"""Fallsunder: books of headings over goods told as trees of any size."""
