"""The texts by which values are shown. The values are known not to be too deep."""

from recordcraft.sorts import Fielded, sort_of


def text_of(value):
    """Returns the text by which a value is shown."""
    # The sorts that occur most often are known by their classes, without a call.
    if type(value) is int or value is None or type(value) is bool:
        return str(value)
    if type(value) is str:
        return _quoted(value)
    if type(value) is list:
        return _text_of_list(value)
    if isinstance(value, Fielded):
        return _text_of_record(value)
    sort = sort_of(value)
    if sort == "tuple":
        return _text_of_tuple(value)
    if sort == "dict":
        return _text_of_dict(value)
    if sort == "list":
        return _text_of_list(value)
    return _quoted(value) if sort == "text" else str(value)


def _text_of_list(value):
    if not value:
        return "[]"
    inside = ", ".join([str(item) if type(item) is int else text_of(item) for item in value])
    return f"[{inside}]"


def _text_of_tuple(value):
    if not value:
        return "()"
    inside = ", ".join([str(item) if type(item) is int else text_of(item) for item in value])
    return f"({inside},)" if len(value) == 1 else f"({inside})"


def _quoted(text):
    if text.isalnum():
        return f'"{text}"'
    # The backslash comes first, since the others bring new ones.
    escaped = text.replace("\\", "\\\\").replace("\"", "\\\"").replace("\n", "\\n")
    return f'"{escaped}"'


def _text_of_dict(value):
    if not value:
        return "{}"
    inside = ", ".join([f"{_quoted(key)}: {text_of(value[key])}" for key in value])
    return "{" + inside + "}"


def _text_of_record(record):
    kind = record.kind
    if not kind.show:
        return f"{kind.name}(...)"
    values = record.present_values()
    inside = ", ".join([f"{name}={text_of(values[name])}" if name in values else f"{name}=unset"
                        for name in kind.show_names])
    return f"{kind.name}({inside})"
