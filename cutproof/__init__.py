"""Query plans whose answers do not depend on how intervals are cut."""
