package record

import (
	"strings"

	"latchkey/api"
	"latchkey/clock"
	"latchkey/codec"
)

// member is an entry of MEMBERS: which token of a family has a generation.
type member struct {
	family, gen, id int
}

// ending is an entry of ENDS.
type ending struct {
	end, id int
}

// subjected is an entry of SUBJECTS.
type subjected struct {
	subject string
	id      int
}

// End is when a family ended, or will.
func End(f api.Family) int {
	if f.State != api.Active {
		return nearest(f.Ended)
	}
	return clock.First(clock.Add(f.Created, nearest(f.Absolute)), clock.Add(f.Used, nearest(f.Idle)))
}

// nearest is the nearest time of a number.
func nearest(n int) int { return clock.First(n) }

// OfFamily are the entries of the indexes that a family has.
func OfFamily(f api.Family) ([]api.Pair, api.Errno) {
	if !rightFamily(f) {
		return nil, api.ErrRecordField
	}
	return []api.Pair{
		layEnding(&ending{end: End(f), id: f.ID}).pair(),
		laySubjected(&subjected{subject: f.Subject, id: f.ID}).pair(),
	}, api.OK
}

// OfToken is the entry of the index that a token has.
func OfToken(t api.Token) (api.Pair, api.Errno) {
	if !rightToken(t) {
		return api.Pair{}, api.ErrRecordField
	}
	return layMember(&member{family: t.Family, gen: t.Gen, id: t.ID}).pair(), api.OK
}

// ParseIndex reads an entry of an index: its kind, its time or number, its family, its subject.
func ParseIndex(p api.Pair) (string, int, int, string, api.Errno) {
	if m, errno := parsed(p, rightMember, layMember); errno == api.OK {
		return memberLetter, m.gen, m.family, strings.Clone(p.Value), api.OK
	}
	if e, errno := parsed(p, rightEnding, layEnding); errno == api.OK {
		return endLetter, e.end, e.id, "", api.OK
	}
	if s, errno := parsed(p, rightSubjected, laySubjected); errno == api.OK {
		return subjectLetter, 0, s.id, s.subject, api.OK
	}
	return "", 0, 0, "", api.ErrRecordForm
}

func rightMember(m member) bool { return isID(m.family) && isGen(m.gen) && isID(m.id) }

// rightEnding: every time is the end of some family: of one that was Revoked then.
func rightEnding(e ending) bool { return isTime(e.end) && isID(e.id) }

func rightSubjected(s subjected) bool { return isName(s.subject) && isID(s.id) }

func layMember(m *member) layout {
	letter := memberLetter
	return layout{
		key: []field{
			whole{&letter, len(letter), (*codec.Writer).Raw, (*codec.Reader).Raw},
			sized[int]{&m.family, idSize, (*codec.Writer).Num, (*codec.Reader).Num},
			sized[int]{&m.gen, genSize, (*codec.Writer).Num, (*codec.Reader).Num},
		},
		value: []field{
			sized[int]{&m.id, idSize, (*codec.Writer).Num, (*codec.Reader).Num},
		},
	}
}

func layEnding(e *ending) layout {
	letter := endLetter
	return layout{
		key: []field{
			whole{&letter, len(letter), (*codec.Writer).Raw, (*codec.Reader).Raw},
			sized[int]{&e.end, timeSize, (*codec.Writer).Num, (*codec.Reader).Num},
			sized[int]{&e.id, idSize, (*codec.Writer).Num, (*codec.Reader).Num},
		},
	}
}

func laySubjected(s *subjected) layout {
	letter, nought := subjectLetter, "\x00"
	return layout{
		key: []field{
			whole{&letter, len(letter), (*codec.Writer).Raw, (*codec.Reader).Raw},
			rest{&s.subject, len(nought) + idSize, (*codec.Writer).Raw, (*codec.Reader).Left, (*codec.Reader).Raw},
			whole{&nought, len(nought), (*codec.Writer).Raw, (*codec.Reader).Raw},
			sized[int]{&s.id, idSize, (*codec.Writer).Num, (*codec.Reader).Num},
		},
	}
}
