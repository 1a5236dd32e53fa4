"""Objects of kinds that no parameter of the program takes, for tests of wrong inputs."""

ODD_OBJECTS = (
    None, True, False, 1.5, "", "x", b"", b"//h/", (), [], {}, set(), (1,), [1], {"a": 1}, object(), int, len, Exception(),
)
NO_STRINGS = tuple(value for value in ODD_OBJECTS if not isinstance(value, str)) + (0, 1, ["//h/"], ("//h/",))
