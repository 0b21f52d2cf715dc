"""Steps, pipelines and forms as texts."""


def show_step(step):
    """Return the text of a step: its items with single spaces."""
    return " ".join([str(item) for item in step])


def show_pipeline(pipeline):
    """Return the text of a pipeline: its steps, or a hyphen if it has none."""
    if len(pipeline) == 0:
        return "-"
    return "; ".join([show_step(step) for step in pipeline.steps])


def show_form(form):
    """Return the text of a form: its kind, and its sizes or residues."""
    head = "some:"
    if form[0] == "classes":
        head = f"from {form[1]} by {form[2]}:"
    return " ".join([head] + [str(number) for number in form[-1]])
