"""Whoheld: which readers kept the dead rows."""
