"""Engines that go on as other ones."""
