"""Tests of the package wherelaid."""
