"""Tests of anychain."""
