"""Foxborders: shires joined two at a time, and a fox that nobody corners."""
