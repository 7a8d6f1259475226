"""Swingposts: walkers on a line of posts that swing."""
