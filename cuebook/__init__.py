"""Cuebook: a troupe that plays from cue parts alone."""
