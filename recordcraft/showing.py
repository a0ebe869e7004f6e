"""The texts by which values are shown. The values are known not to be too deep."""

from recordcraft.sorts import sort_of


def text_of(value):
    """Returns the text by which a value is shown."""
    if type(value) is int:
        return str(value)
    sort = sort_of(value)
    if sort == "text":
        return _quoted(value)
    if sort == "tuple":
        return f"({_texts_of(value)},)" if len(value) == 1 else f"({_texts_of(value)})"
    if sort == "list":
        return f"[{_texts_of(value)}]"
    if sort == "dict":
        return _text_of_dict(value)
    if sort == "record":
        return _text_of_record(value)
    return str(value)


def _texts_of(items):
    return ", ".join([str(item) if type(item) is int else text_of(item) for item in items])


def _quoted(text):
    # The backslash comes first, since the others bring new ones.
    escaped = text.replace("\\", "\\\\").replace("\"", "\\\"").replace("\n", "\\n")
    return f'"{escaped}"'


def _text_of_dict(value):
    inside = ", ".join([f"{_quoted(key)}: {text_of(value[key])}" for key in value])
    return "{" + inside + "}"


def _text_of_record(record):
    kind = record.kind
    if not kind.show:
        return f"{kind.name}(...)"
    values = dict(record.entries())
    inside = ", ".join([_text_of_field(values, field.name) for field in kind.fields if field.show])
    return f"{kind.name}({inside})"


def _text_of_field(values, name):
    if name not in values:
        return f"{name}=unset"
    return f"{name}={text_of(values[name])}"
