"""Tests of pickline."""
