"""The texts by which values are shown. The values are known not to be too deep."""

from recordcraft.sorts import sort_of


def text_of(value):
    """Returns the text by which a value is shown."""
    sort = sort_of(value)
    if sort == "text":
        return _quoted(value)
    if sort == "tuple":
        return _text_of_tuple(value)
    if sort == "list":
        inside = ", ".join([text_of(item) for item in value])
        return f"[{inside}]"
    if sort == "dict":
        inside = ", ".join([f"{text_of(key)}: {text_of(value[key])}" for key in value])
        return "{" + inside + "}"
    if sort == "record":
        return _text_of_record(value)
    return str(value)


def _quoted(text):
    # The backslash comes first, since the others bring new ones.
    escaped = text.replace("\\", "\\\\").replace("\"", "\\\"").replace("\n", "\\n")
    return f'"{escaped}"'


def _text_of_tuple(value):
    inside = ", ".join([text_of(item) for item in value])
    if len(value) == 1:
        return f"({inside},)"
    return f"({inside})"


def _text_of_record(record):
    kind = record.kind
    if not kind.show:
        return f"{kind.name}(...)"
    inside = ", ".join([_text_of_field(record, field.name) for field in kind.fields if field.show])
    return f"{kind.name}({inside})"


def _text_of_field(record, name):
    if name not in record:
        return f"{name}=unset"
    return f"{name}={text_of(record[name])}"
