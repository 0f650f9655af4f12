"""Doubtborne: what a robot can surely do when it knows neither its map nor its place."""
