"""Onecopy: a store that keeps all its past in place."""
