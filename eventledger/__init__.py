"""Eventledger: a log of events, its forms, and all that is made of it."""
