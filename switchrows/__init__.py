"""Switchrows: rows of words moved by stages of small switches."""
