"""Gentlebends: the smoothest rows through points, with papers, in exact numbers."""
