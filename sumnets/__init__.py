"""Nets of joinings, by any told joining, over windows and parts."""
