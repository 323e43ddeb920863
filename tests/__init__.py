"""The tests of howmanyeach."""
