"""All that a ledger tells, and the entries of a store."""

from eventledger.rows import body_of
from eventledger.values import read

KINDS = ("bill", "move", "note", "never")
TELLERS = ("ann", "bob", "never")
NAMES = ("cost", "far", "mail", "more", "never", "sums", "view")


def entries(store):
    """The entries in the rows, each of which must be one."""
    return [read(body_of(row)) for row in store.rows()]


def answer(function, *arguments, **more):
    """What is told, or the refusal with its fields."""
    try:
        return ("told", function(*arguments, **more))
    except (ValueError, LookupError, ArithmeticError, RuntimeError) as refusal:
        return ("refused", type(refusal).__name__, vars(refusal))


def told(ledger):
    """All that can be asked, refusals among it."""
    length = ledger.length()
    answers = {
        "length": length, "kept": ledger.kept(), "generation": ledger.generation(), "busy": ledger.busy(),
        "projections": ledger.projections(), "rules": ledger.rules(), "root": ledger.root(),
    }
    for kind in KINDS:
        answers["versions", kind] = ledger.versions(kind)
        for version in range(5):
            answers["form_of", kind, version] = answer(ledger.form_of, kind, version)
    for teller in TELLERS:
        answers["last_number", teller] = ledger.last_number(teller)
    for position in range(length + 2):
        answers["event", position] = answer(ledger.event, position)
        answers["events", position] = answer(ledger.events, position, length)
        answers["root", position] = answer(ledger.root, length=position)
        for shorter in range(0, position + 2, 3):
            answers["standing", shorter, position] = answer(ledger.standing, shorter, length=position)
            answers["beginning", shorter, position] = answer(ledger.beginning, shorter, length=position)
    for name in NAMES:
        answers["due", name] = answer(ledger.due, name)
        answers["intent", name] = answer(ledger.intent, name)
        answers["snapshots", name] = answer(ledger.snapshots, name)
        for position in range(length + 2):
            answers["table", name, position] = answer(ledger.table, name, at=position)
            answers["summary", name, position] = answer(ledger.summary, name, position // 2, position)
            for since in range(0, position + 1, 2):
                answers["table", name, position, since] = answer(ledger.table, name, at=position, since=since)
    return answers


def still_told(answers, kept):
    """Those of the answers that can still be asked behind letting go of the events ahead of a position."""
    return {key: value for key, value in answers.items() if stays(key, kept, answers)}


def stays(key, kept, answers):
    """Whether the answer can still be asked, and is the same."""
    if key[0] not in ("event", "events", "summary", "table"):
        return key not in ("kept", "generation") and key[0] != "snapshots"
    if key[0] in ("event", "events"):
        return key[1] >= kept
    if key[0] == "summary":
        return key[2] // 2 >= kept or key[2] // 2 == key[2]
    if answers[key][0] == "refused":
        return False
    shots = answers["snapshots", key[1]][1]
    if key[2] < kept and key[2] not in shots:
        return False
    return len(key) < 4 or key[3] >= kept or key[3] == key[2]
