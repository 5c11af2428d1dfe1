"""The tests of fivefault."""
