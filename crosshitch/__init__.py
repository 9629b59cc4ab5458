"""Crosshitch: pieces coupled by their ends."""
