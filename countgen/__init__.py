"""Countgen: values counted, told by number, tried and shrunk."""
