"""The tests of the program; README.md tells how to run them."""
