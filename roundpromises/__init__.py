"""Roundpromises: what can be promised for ever of a plant that runs in rounds."""
