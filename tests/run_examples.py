"""Runs examples as the document writes them: a line with >>> and what it returns or raises."""


def run_examples(text, names):
    """The number of examples that were held against their results; names are what they use."""
    held = 0
    lines = [line for line in text.strip().split("\n") if line]
    while lines:
        line = lines.pop(0)
        if not line.startswith(">>> "):
            raise AssertionError(f"no example: {line}")
        if not lines or lines[0].startswith(">>> "):
            if " = " in line:
                exec(line[4:], names)
                continue
            told = "None"
        else:
            told = lines.pop(0)
        result = outcome(line[4:], names)
        if result != told:
            raise AssertionError(f"{line}\n{result}\nis not\n{told}")
        held += 1
    return held


def outcome(line, names):
    """What an expression returns or raises, as the document writes it."""
    try:
        return repr(eval(line, names))
    except Exception as error:
        return f"raises {type(error).__name__}({error})"
