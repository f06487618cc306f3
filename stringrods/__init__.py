"""Stringrods: straight rods in space, told by six numbers and one product."""
