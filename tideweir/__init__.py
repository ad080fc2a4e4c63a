"""Tideweir: a stream engine whose answer shows no schedule, crash, scale or plan."""
