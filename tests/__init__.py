"""The tests of levelties."""
