"""Unjump: programs of jumps told as programs of rounds."""
