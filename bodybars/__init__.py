"""Bodybars: bodies joined by bars, pins, hinges and welds."""
