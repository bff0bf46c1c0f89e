package record_test

import (
	"math/big"
	"strings"

	"latchkey/api"
)

// The rows of the chapter's table: the pair of a record, and whether it may be.

func clientPair(c api.Client) (api.Pair, bool) {
	secrets := len(c.Hash) == 32 && (c.Old == "" && c.Until == 0 || len(c.Old) == 32 && isTime(c.Until))
	if c.Public {
		secrets = c.Hash == "" && c.Old == "" && c.Until == 0
	}
	if !isName(c.Name) || !secrets || !isScope(c.Scope) || !between(c.Idle, 1, lastTime) || !between(c.Absolute, 1, lastTime) || !isTime(c.Grace) || !between(c.Life, 1, lastTime) {
		return api.Pair{}, false
	}
	flags := 0
	if c.Public {
		flags++
	}
	if c.Off {
		flags += 2
	}
	return api.Pair{
		Key: "c" + c.Name,
		Value: by(1, flags) + short(c.Hash) + short(c.Old) + by(6, c.Until) + short(strings.Join(c.Scope, " ")) +
			by(6, c.Idle) + by(6, c.Absolute) + by(6, c.Grace) + by(6, c.Life),
	}, true
}

func familyPair(f api.Family) (api.Pair, bool) {
	ids := isID(f.ID) && isID(f.Token) && (f.Code == 0 || isID(f.Code))
	spans := between(f.Idle, 1, lastTime) && between(f.Absolute, 1, lastTime) && isTime(f.Grace)
	ended := f.Ended == 0
	if f.State != 1 {
		ended = between(f.Ended, f.Used, lastTime)
	}
	if !ids || !isName(f.Client) || !isName(f.Subject) || !isScope(f.Scope) || !isTime(f.Created) || !between(f.Used, f.Created, lastTime) || !spans || !between(f.Gen, 1, lastGen) || !between(f.State, 1, 4) || !ended {
		return api.Pair{}, false
	}
	return api.Pair{
		Key: "f" + by(8, f.ID),
		Value: short(f.Client) + short(f.Subject) + short(strings.Join(f.Scope, " ")) +
			by(6, f.Created) + by(6, f.Used) + by(6, f.Idle) + by(6, f.Absolute) + by(6, f.Grace) +
			by(4, f.Gen) + by(8, f.Token) + by(1, f.State) + by(6, f.Ended) + by(8, f.Code),
	}, true
}

func tokenPair(k api.Token) (api.Pair, bool) {
	spent := k.At == 0 && k.Next == 0 && k.Secret == ""
	flag := 0
	if k.Spent {
		spent = between(k.At, k.Minted, lastTime) && isID(k.Next) && len(k.Secret) == 24
		flag = 1
	}
	if !isID(k.ID) || !isID(k.Family) || !between(k.Gen, 1, lastGen) || len(k.Hash) != 32 || !isTime(k.Minted) || !spent {
		return api.Pair{}, false
	}
	return api.Pair{
		Key:   "t" + by(8, k.ID),
		Value: by(8, k.Family) + by(4, k.Gen) + k.Hash + by(6, k.Minted) + by(1, flag) + by(6, k.At) + by(8, k.Next) + short(k.Secret),
	}, true
}

func codePair(c api.Code) (api.Pair, bool) {
	state := c.State == 1 && c.Family == 0 || c.State == 2 && isID(c.Family)
	if !isID(c.ID) || !isName(c.Client) || !isName(c.Subject) || !isScope(c.Scope) || len(c.Hash) != 32 || len(c.Challenge) != 32 || !isTime(c.Until) || !state {
		return api.Pair{}, false
	}
	return api.Pair{
		Key:   "a" + by(8, c.ID),
		Value: short(c.Client) + short(c.Subject) + short(strings.Join(c.Scope, " ")) + c.Hash + c.Challenge + by(6, c.Until) + by(1, c.State) + by(8, c.Family),
	}, true
}

func keyPair(k api.Key) (api.Pair, bool) {
	if !between(k.Number, 1, lastGen) || len(k.Secret) != 24 || !isTime(k.From) || !between(k.Until, k.From, lastTime) {
		return api.Pair{}, false
	}
	return api.Pair{Key: "k" + by(4, k.Number), Value: k.Secret + by(6, k.From) + by(6, k.Until)}, true
}

func eventPair(e api.Event) (api.Pair, bool) {
	if !isID(e.Number) || !isTime(e.Time) || !between(e.Kind, 1, 9) || e.Family != 0 && !isID(e.Family) || e.Who != "" && !isName(e.Who) {
		return api.Pair{}, false
	}
	return api.Pair{Key: "e" + by(8, e.Number), Value: by(6, e.Time) + by(1, e.Kind) + by(8, e.Family) + short(e.Who)}, true
}

func chainPair(c api.Chain) (api.Pair, bool) {
	above := new(big.Int).Sub(big.NewInt(int64(c.Next)), big.NewInt(int64(c.Base)))
	near := above.Sign() > 0 && above.Cmp(big.NewInt(33)) <= 0
	if !between(c.Base, 0, lastID) || !near || c.Next > lastID+1 || len(c.BaseHash) != 32 || len(c.NextHash) != 32 {
		return api.Pair{}, false
	}
	return api.Pair{Key: "h", Value: by(8, c.Base) + by(8, c.Next) + c.BaseHash + c.NextHash}, true
}

// nearest is the nearest time of a number.
func nearest(n *big.Int) *big.Int {
	switch last := big.NewInt(lastTime); {
	case n.Sign() < 0:
		return new(big.Int)
	case n.Cmp(last) > 0:
		return last
	}
	return n
}

func timeOf(n int) *big.Int { return nearest(big.NewInt(int64(n))) }

// endOf is R3.
func endOf(f api.Family) int {
	if f.State != 1 {
		return int(timeOf(f.Ended).Int64())
	}
	old := nearest(new(big.Int).Add(timeOf(f.Created), timeOf(f.Absolute)))
	unused := nearest(new(big.Int).Add(timeOf(f.Used), timeOf(f.Idle)))
	if unused.Cmp(old) < 0 {
		return int(unused.Int64())
	}
	return int(old.Int64())
}

// entries are R4 of a family that may be.
func entries(f api.Family) []api.Pair {
	return []api.Pair{{Key: "x" + by(6, endOf(f)) + by(8, f.ID)}, {Key: "s" + f.Subject + "\x00" + by(8, f.ID)}}
}

// entry is R4 of a token that may be.
func entry(k api.Token) api.Pair {
	return api.Pair{Key: "m" + by(8, k.Family) + by(4, k.Gen), Value: by(8, k.ID)}
}
