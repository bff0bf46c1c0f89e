package record

import (
	"latchkey/api"
	"latchkey/codec"
)

// By how many bytes numbers stand.
const (
	smallSize = 1 // flags, states, kinds
	genSize   = 4 // generations, a key's number
	timeSize  = 6
	idSize    = 8
)

// The letters by which keys begin, one of each kind.
const (
	clientLetter  = "c"
	familyLetter  = "f"
	tokenLetter   = "t"
	codeLetter    = "a"
	keyLetter     = "k"
	eventLetter   = "e"
	chainLetter   = "h"
	memberLetter  = "m"
	endLetter     = "x"
	subjectLetter = "s"
)

// layClient is a client's table. (A letter stands in a variable here and in all tables, for a row holds a place; what is read into it is not asked: that it is another one shows when the record is printed again.)
func layClient(c *api.Client) layout {
	letter := clientLetter
	return layout{
		key: []field{
			whole{&letter, len(letter), (*codec.Writer).Raw, (*codec.Reader).Raw},
			rest{&c.Name, 0, (*codec.Writer).Raw, (*codec.Reader).Left, (*codec.Reader).Raw},
		},
		value: []field{
			flags{[]*bool{&c.Public, &c.Off}, smallSize, (*codec.Writer).Num, (*codec.Reader).Num},
			sized[string]{&c.Hash, api.HashSize, (*codec.Writer).Text, (*codec.Reader).Text},
			sized[string]{&c.Old, api.HashSize, (*codec.Writer).Text, (*codec.Reader).Text},
			sized[int]{&c.Until, timeSize, (*codec.Writer).Num, (*codec.Reader).Num},
			names{&c.Scope, api.MaxScope, (*codec.Writer).Text, (*codec.Reader).Text},
			sized[int]{&c.Idle, timeSize, (*codec.Writer).Num, (*codec.Reader).Num},
			sized[int]{&c.Absolute, timeSize, (*codec.Writer).Num, (*codec.Reader).Num},
			sized[int]{&c.Grace, timeSize, (*codec.Writer).Num, (*codec.Reader).Num},
			sized[int]{&c.Life, timeSize, (*codec.Writer).Num, (*codec.Reader).Num},
		},
	}
}

func layFamily(f *api.Family) layout {
	letter := familyLetter
	return layout{
		key: []field{
			whole{&letter, len(letter), (*codec.Writer).Raw, (*codec.Reader).Raw},
			sized[int]{&f.ID, idSize, (*codec.Writer).Num, (*codec.Reader).Num},
		},
		value: []field{
			sized[string]{&f.Client, api.MaxName, (*codec.Writer).Text, (*codec.Reader).Text},
			sized[string]{&f.Subject, api.MaxName, (*codec.Writer).Text, (*codec.Reader).Text},
			names{&f.Scope, api.MaxScope, (*codec.Writer).Text, (*codec.Reader).Text},
			sized[int]{&f.Created, timeSize, (*codec.Writer).Num, (*codec.Reader).Num},
			sized[int]{&f.Used, timeSize, (*codec.Writer).Num, (*codec.Reader).Num},
			sized[int]{&f.Idle, timeSize, (*codec.Writer).Num, (*codec.Reader).Num},
			sized[int]{&f.Absolute, timeSize, (*codec.Writer).Num, (*codec.Reader).Num},
			sized[int]{&f.Grace, timeSize, (*codec.Writer).Num, (*codec.Reader).Num},
			sized[int]{&f.Gen, genSize, (*codec.Writer).Num, (*codec.Reader).Num},
			sized[int]{&f.Token, idSize, (*codec.Writer).Num, (*codec.Reader).Num},
			sized[int]{&f.State, smallSize, (*codec.Writer).Num, (*codec.Reader).Num},
			sized[int]{&f.Ended, timeSize, (*codec.Writer).Num, (*codec.Reader).Num},
			sized[int]{&f.Code, idSize, (*codec.Writer).Num, (*codec.Reader).Num},
		},
	}
}

func layToken(t *api.Token) layout {
	letter := tokenLetter
	return layout{
		key: []field{
			whole{&letter, len(letter), (*codec.Writer).Raw, (*codec.Reader).Raw},
			sized[int]{&t.ID, idSize, (*codec.Writer).Num, (*codec.Reader).Num},
		},
		value: []field{
			sized[int]{&t.Family, idSize, (*codec.Writer).Num, (*codec.Reader).Num},
			sized[int]{&t.Gen, genSize, (*codec.Writer).Num, (*codec.Reader).Num},
			whole{&t.Hash, api.HashSize, (*codec.Writer).Raw, (*codec.Reader).Raw},
			sized[int]{&t.Minted, timeSize, (*codec.Writer).Num, (*codec.Reader).Num},
			flags{[]*bool{&t.Spent}, smallSize, (*codec.Writer).Num, (*codec.Reader).Num},
			sized[int]{&t.At, timeSize, (*codec.Writer).Num, (*codec.Reader).Num},
			sized[int]{&t.Next, idSize, (*codec.Writer).Num, (*codec.Reader).Num},
			sized[string]{&t.Secret, api.SecretSize, (*codec.Writer).Text, (*codec.Reader).Text},
		},
	}
}

func layCode(c *api.Code) layout {
	letter := codeLetter
	return layout{
		key: []field{
			whole{&letter, len(letter), (*codec.Writer).Raw, (*codec.Reader).Raw},
			sized[int]{&c.ID, idSize, (*codec.Writer).Num, (*codec.Reader).Num},
		},
		value: []field{
			sized[string]{&c.Client, api.MaxName, (*codec.Writer).Text, (*codec.Reader).Text},
			sized[string]{&c.Subject, api.MaxName, (*codec.Writer).Text, (*codec.Reader).Text},
			names{&c.Scope, api.MaxScope, (*codec.Writer).Text, (*codec.Reader).Text},
			whole{&c.Hash, api.HashSize, (*codec.Writer).Raw, (*codec.Reader).Raw},
			whole{&c.Challenge, api.HashSize, (*codec.Writer).Raw, (*codec.Reader).Raw},
			sized[int]{&c.Until, timeSize, (*codec.Writer).Num, (*codec.Reader).Num},
			sized[int]{&c.State, smallSize, (*codec.Writer).Num, (*codec.Reader).Num},
			sized[int]{&c.Family, idSize, (*codec.Writer).Num, (*codec.Reader).Num},
		},
	}
}

func layKey(k *api.Key) layout {
	letter := keyLetter
	return layout{
		key: []field{
			whole{&letter, len(letter), (*codec.Writer).Raw, (*codec.Reader).Raw},
			sized[int]{&k.Number, genSize, (*codec.Writer).Num, (*codec.Reader).Num},
		},
		value: []field{
			whole{&k.Secret, api.SecretSize, (*codec.Writer).Raw, (*codec.Reader).Raw},
			sized[int]{&k.From, timeSize, (*codec.Writer).Num, (*codec.Reader).Num},
			sized[int]{&k.Until, timeSize, (*codec.Writer).Num, (*codec.Reader).Num},
		},
	}
}

func layEvent(e *api.Event) layout {
	letter := eventLetter
	return layout{
		key: []field{
			whole{&letter, len(letter), (*codec.Writer).Raw, (*codec.Reader).Raw},
			sized[int]{&e.Number, idSize, (*codec.Writer).Num, (*codec.Reader).Num},
		},
		value: []field{
			sized[int]{&e.Time, timeSize, (*codec.Writer).Num, (*codec.Reader).Num},
			sized[int]{&e.Kind, smallSize, (*codec.Writer).Num, (*codec.Reader).Num},
			sized[int]{&e.Family, idSize, (*codec.Writer).Num, (*codec.Reader).Num},
			sized[string]{&e.Who, api.MaxName, (*codec.Writer).Text, (*codec.Reader).Text},
		},
	}
}

func layChain(c *api.Chain) layout {
	letter := chainLetter
	return layout{
		key: []field{
			whole{&letter, len(letter), (*codec.Writer).Raw, (*codec.Reader).Raw},
		},
		value: []field{
			sized[int]{&c.Base, idSize, (*codec.Writer).Num, (*codec.Reader).Num},
			sized[int]{&c.Next, idSize, (*codec.Writer).Num, (*codec.Reader).Num},
			whole{&c.BaseHash, api.HashSize, (*codec.Writer).Raw, (*codec.Reader).Raw},
			whole{&c.NextHash, api.HashSize, (*codec.Writer).Raw, (*codec.Reader).Raw},
		},
	}
}
