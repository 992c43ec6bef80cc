"""Wornpages: a store on pages that wear out."""
