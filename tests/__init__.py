"""Tests of changewhile."""
