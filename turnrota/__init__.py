"""Turnrota: wheels of cheese that are turned by a rota, and what can be told about missed turnings."""
