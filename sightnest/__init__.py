"""A world model: containment, light, sight and reach."""
