"""Deedhouses: plans under chance, for several pays at once, exactly."""
