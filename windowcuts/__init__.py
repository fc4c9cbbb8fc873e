"""Windowcuts: pressed streams cut, lost, joined and put otherwise."""
