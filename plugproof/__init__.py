"""Plugproof: a file system that stands, whenever the plug is pulled."""
