"""Kitwright: kits in versions that want and bar one another."""
