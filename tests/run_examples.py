"""Runs examples as the document writes them: a line with >>> and what it returns or raises."""


def run_examples(text, names):
    """The number of examples that were held against their results; names are what they use."""
    held = 0
    lines = [line for line in text.strip().split("\n") if line]
    while lines:
        line = lines.pop(0)
        if not line.startswith(">>> "):
            raise AssertionError(f"no example: {line}")
        if not lines or lines[0].startswith(">>> "):
            if " = " in line:
                exec(line[4:], names)
                continue
            told = "None"
        else:
            told = lines.pop(0)
        results = outcomes(line[4:], names)
        if told not in results:
            raise AssertionError(f"{line}\n{results[-1]}\nis not\n{told}")
        held += 1
    return held


def outcomes(line, names):
    """How the document can write what an expression returns, or the error that it raises, with or without what it keeps."""
    try:
        return [repr(eval(line, names))]
    except Exception as error:
        name = type(error).__name__
        return [f"raises {name}"] + [f"raises {name}({kept!r})" for kept in vars(error).values()]
