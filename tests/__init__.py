"""Tests of Kitwright."""
