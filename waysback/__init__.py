"""Waysback: ways of steps forth and back between words."""
