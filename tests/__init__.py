"""The tests of everybase."""
