"""Ringdown: calls handed on along a tree when something happens."""
