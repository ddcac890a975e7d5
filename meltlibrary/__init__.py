"""Meltlibrary: texts on tablets of ice."""
