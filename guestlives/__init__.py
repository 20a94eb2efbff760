"""Guestlives: guest programs run by translated blocks, and the rules that keep them right."""
