"""Claims, and the papers that show that they are true [92]."""

from frontlines.alike import are_alike, can_be_held, unlike_message
from frontlines.chains import before, form_of, is_barrier, is_closed, limited_chain, line_turned, net_before
from frontlines.checks import is_chain_for, is_message, is_role
from frontlines.errors import InvalidClaim, InvalidEnds, InvalidRows, InvalidText, TooMany, Untrue
from frontlines.faults import least_let_line, seen_somewhere
from frontlines.lines import is_line, is_list
from frontlines.machines import Machine
from frontlines.nets import chain_net, steps_of
from frontlines.stands import telling_of
from frontlines.texts import read_scheme
from frontlines.trees import is_wrong_way, wrong_way
from frontlines.turns import turns_of

KEYS = {
    "turned": ("claim", "scheme", "line", "role"),
    "never": ("claim", "scheme", "line", "role"),
    "sound": ("claim", "scheme"),
    "unsound": ("claim", "scheme"),
    "alike": ("claim", "scheme", "other"),
    "unlike": ("claim", "scheme", "other"),
}


def kind_of(value):
    """The kind of a claim, by its keys; None if it is none."""
    kind = value.get("claim") if isinstance(value, dict) else None
    if not isinstance(kind, str) or kind not in KEYS:
        return None
    wanted = KEYS[kind]
    return kind if len(value) == len(wanted) and all([key in value for key in wanted]) else None


def scheme_told(text):
    """The Scheme of the text; None if it cannot be read."""
    try:
        return read_scheme(text)
    except InvalidText:
        return None


def parts_of(kind, claim):
    """What a claim of the kind is about: (scheme, line, role), (scheme,) or (reader, reader); None if it is none."""
    scheme = scheme_told(claim["scheme"])
    if scheme is None:
        return None
    if "role" in claim:
        line, role = claim["line"], claim["role"]
        fits = is_line(scheme.signs, line) and is_role(scheme.reader.depth, role)
        return (scheme, line, role) if fits else None
    if "other" in claim:
        other = scheme_told(claim["other"])
        fits = other is not None and can_be_held(scheme.reader, other.reader)
        return (scheme.reader, other.reader) if fits else None
    return (scheme,)


def read_claim(claim):
    """A tuple (kind, parts); InvalidClaim unless a claim."""
    kind = kind_of(claim)
    parts = None if kind is None else parts_of(kind, claim)
    if parts is None:
        raise InvalidClaim(claim)
    return kind, parts


def machine_told(signs, value):
    """The Machine that stands in a paper; None if there is none."""
    if not isinstance(value, tuple) or len(value) != 2:
        return None
    rows, ends = value
    try:
        return Machine(signs, rows, ends)
    except (InvalidRows, InvalidEnds, TooMany):
        return None


def missed(reader, role):
    """The Machine of the lines that are not taken for the role while the levels up to its own are open."""
    return -reader.taken(role, role[1])


def net_of_seen(scheme, role):
    """The net of the lines that some chain turns into ones in which the role's line is seen."""
    return net_before(scheme.relays(), scheme.reader.sees(role))


def is_turned(scheme, line, role):
    """Whether some chain turns the line into one in which the role's line is seen."""
    return steps_of(net_of_seen(scheme, role), line) is not None


def is_never(scheme, line, role):
    """Whether no chain does."""
    return not is_turned(scheme, line, role)


def is_sound(scheme):
    """Whether the scheme is sound."""
    return scheme.is_sound()


def is_unsound(scheme):
    """Whether the scheme is not sound."""
    return not scheme.is_sound()


def is_alike(one, other):
    """Whether the readers are alike."""
    return are_alike(one, other)


def is_unlike(one, other):
    """Whether the readers are not alike."""
    return not are_alike(one, other)


def turned_shown(value, scheme, line, role):
    """Whether the value is a chain that turns the line so."""
    relays = scheme.relays()
    return is_chain_for(len(relays), value) and line_turned(relays, line, value) in scheme.reader.sees(role)


def never_shown(value, scheme, line, role):
    """Whether the value is a barrier."""
    return is_barrier(scheme.relays(), line, scheme.reader.sees(role), machine_told(scheme.signs, value))


def sound_shown(value, scheme):
    """Whether the value is a list of a barrier for each role, and a machine of lines that are not let."""
    reader, relays = scheme.reader, scheme.relays()
    roles = reader.roles()
    if not is_list(value) or len(value) != len(roles) + 1:
        return False
    machines = [machine_told(scheme.signs, each) for each in value]
    if any([machine is None for machine in machines]):
        return False
    for role, machine in zip(roles, machines):
        if not is_barrier(relays, reader.line_of(role), missed(reader, role), machine):
            return False
    return is_clear_shown(scheme, machines[-1])


def is_clear_shown(scheme, machine):
    """Whether the machine is closed, accepts all lines that are taken, and no let one."""
    reader, relays = scheme.reader, scheme.relays()
    if not seen_somewhere(reader).is_within(machine) or not is_closed(relays, machine):
        return False
    # Without turns the net is that of the machine's own lines.
    own = chain_net(scheme.signs, form_of(machine), [])
    return least_let_line(reader, turns_of(relays), scheme.look, own) is None


def unsound_shown(value, scheme):
    """Whether the value is a tree and a chain that go wrong."""
    return is_wrong_way(scheme, value)


def alike_shown(value, one, other):
    """Whether the value is None, and the readers are alike."""
    return value is None and are_alike(one, other)


def unlike_shown(value, one, other):
    """Whether the value is a message at which the readers are unlike."""
    return is_message(one.signs, value) and telling_of(one, value) != telling_of(other, value)


def chain_shown(scheme, line, role):
    """A chain that turns the line so."""
    return limited_chain(net_of_seen(scheme, role), line)


def barrier_shown(scheme, line, role):
    """The least barrier, which is one for each line that no chain turns so."""
    return form_of(before(scheme.relays(), scheme.reader.sees(role)))


def machines_shown(scheme):
    """The least machines that show that the scheme is sound."""
    reader, relays = scheme.reader, scheme.relays()
    wanted = [missed(reader, role) for role in reader.roles()] + [seen_somewhere(reader)]
    return [form_of(before(relays, machine)) for machine in wanted]


def way_shown(scheme):
    """A tree and a chain that go wrong."""
    return wrong_way(scheme)


def nothing_shown(one, other):
    """That two readers are alike has no other paper."""
    return None


def message_shown(one, other):
    """The least message at which the readers are unlike."""
    return unlike_message(one, other)


# For each kind: whether its parts make it true, whether a value is a paper for them, and a paper if it is true.
TRUTHS = {
    "turned": is_turned,
    "never": is_never,
    "sound": is_sound,
    "unsound": is_unsound,
    "alike": is_alike,
    "unlike": is_unlike,
}
CHECKS = {
    "turned": turned_shown,
    "never": never_shown,
    "sound": sound_shown,
    "unsound": unsound_shown,
    "alike": alike_shown,
    "unlike": unlike_shown,
}
PAPERS = {
    "turned": chain_shown,
    "never": barrier_shown,
    "sound": machines_shown,
    "unsound": way_shown,
    "alike": nothing_shown,
    "unlike": message_shown,
}


def is_paper(claim, value):
    """Whether the value is a paper for the claim."""
    kind, parts = read_claim(claim)
    is_shown = CHECKS[kind]
    return is_shown(value, *parts)


def is_true(claim):
    """Whether the claim is true."""
    kind, parts = read_claim(claim)
    is_so = TRUTHS[kind]
    return is_so(*parts)


def paper_for(claim):
    """A paper for the claim; Untrue if there is none."""
    kind, parts = read_claim(claim)
    is_so = TRUTHS[kind]
    if not is_so(*parts):
        raise Untrue()
    paper_of = PAPERS[kind]
    return paper_of(*parts)
