"""Tables and trees: which tree a table tells, and the notes that turn a table into the next one."""

from flashtrees.arguments import is_between
from flashtrees.errors import InvalidNotes, InvalidNumber, NotSound, Refused
from flashtrees.nodes import ROOT, Nodes, nodes_of, tree_of
from flashtrees.notes import greatest_node_in, require_table, wrong_pair_in
from flashtrees.tables import due_in, kept_by, live_part, merged, turned
from flashtrees.trees import require_deed, require_tree

# A deed makes up to eight nodes, so none gets a number that no key can tell.
GREATEST_FIRST = (1 << 32) - 9


def require_notes(notes):
    """InvalidNotes for no tuple of notes."""
    if not isinstance(notes, tuple):
        raise InvalidNotes(None)
    wrong = wrong_pair_in(notes)
    if wrong is not None:
        raise InvalidNotes(wrong)


def require_sound(table):
    """InvalidTable for no table, NotSound for one that is not sound."""
    if not is_sound(table):
        raise NotSound()


def tree_kept(kept):
    """The tree of the nodes that a sound table reaches."""
    return tree_of(Nodes(kept, ROOT))


def is_sound(table):
    """Whether a table is sound."""
    require_table(table)
    return kept_by(table) is not None


def tree_told(table):
    """The tree that a table tells."""
    require_sound(table)
    return tree_kept(kept_by(table))


def live_keys(table):
    """The ascending tuple of a table's live keys."""
    require_sound(table)
    return tuple([key for key, _ in live_part(table)])


def notes_for(table, first, deed):
    """The notes of a deed, made nodes being numbered from FIRST on; Refused if it is refused."""
    require_sound(table)
    if not is_between(first, greatest_node_in(table) + 1, GREATEST_FIRST):
        raise InvalidNumber(first)
    require_deed(deed)
    word, notes, _ = turned(table, first, deed)
    if word is not None:
        raise Refused(word)
    return notes


def table_behind(table, notes):
    """The table behind notes."""
    require_sound(table)
    require_notes(notes)
    return merged(table, notes)


def table_for(tree):
    """The table that tells a tree with its live keys alone, nodes numbered as they are met first."""
    require_tree(tree)
    due = due_in(nodes_of(tree))
    return tuple([(key, due[key]) for key in sorted(due) if due[key] is not None])
