"""Heldranks: machines of lesser and greater, and which values they must hold."""
