"""Laytogether: heaps of goods laid together."""
