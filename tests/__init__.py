"""The tests of the package waysback."""
