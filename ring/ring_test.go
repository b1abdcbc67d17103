package ring_test

import (
	"fmt"
	"hash/fnv"
	"math"
	"math/big"
	"math/rand"
	"slices"
	"strings"
	"testing"

	"fascine/api"
	"fascine/ring"
)

// The signatures that the chapter lists.
var (
	_ func(string) uint64                = ring.Hash
	_ func(string, int) (int, api.Errno) = ring.Shard
	_ [ring.Points]int                   = [16]int{}
)

func checkShard(t *testing.T, id string, shards, want int, e api.Errno) {
	t.Helper()
	if got, gotE := ring.Shard(id, shards); got != want || gotE != e {
		t.Errorf("Shard(%q, %d) = %d, %d, want %d, %d", id, shards, got, gotE, want, e)
	}
}

// modelHash: by the library's FNV-1a, and numbers without a bound.
func modelHash(s string) uint64 {
	f := fnv.New64a()
	f.Write([]byte(s))
	h := f.Sum64()
	h ^= h / (1 << 32)
	times, _ := new(big.Int).SetString("9e3779b97f4a7c15", 16)
	times.Mul(times, new(big.Int).SetUint64(h))
	h = times.Mod(times, new(big.Int).Lsh(big.NewInt(1), 64)).Uint64()
	return h ^ h/(1<<29)
}

type point struct {
	place    uint64
	shard, k int
}

// modelPoints: the ring of so many shards, in order.
func modelPoints(shards int) []point {
	var l []point
	for s := range shards {
		for k := range 16 {
			l = append(l, point{modelHash(fmt.Sprintf("shard-%d-%d", s, k)), s, k})
		}
	}
	slices.SortStableFunc(l, func(a, b point) int {
		switch {
		case a.place < b.place:
			return -1
		case a.place > b.place:
			return 1
		}
		return 0
	})
	return l
}

// modelShard: the ring gone through from its beginning.
func modelShard(l []point, id string) int {
	for _, p := range l {
		if p.place >= modelHash(id) {
			return p.shard
		}
	}
	return l[0].shard
}

// manyIDs: ids as they may be, and texts that no entry may have as its id.
func manyIDs() []string {
	ids := []string{"", "\x00", "\xff", "é", strings.Repeat("x", 32), strings.Repeat("x", 33), strings.Repeat("shard-", 1000)}
	for i := range 2000 {
		ids = append(ids, fmt.Sprintf("id-%d", i))
	}
	r := rand.New(rand.NewSource(13))
	for range 2000 {
		p := make([]byte, r.Intn(40))
		r.Read(p)
		ids = append(ids, string(p))
	}
	return ids
}

// P13.1

func TestHash(t *testing.T) {
	for s, want := range map[string]uint64{
		"": 0x8570e250fe4c2473, "a": 0x82b19d9859a61322, "b": 0x4a14e8514a87f785, "ab": 0xb43c19b545c52d76,
		"\x00": 0x71d92418536132d1, "\xff": 0x28fbdd7e7eb5ec33, "é": 0x499e0a6c880df608,
		"shard-0-0": 0x61621bff51261261, "e0123456789012345678901234567890": 0x5ad1b1508702253b,
	} {
		if got := ring.Hash(s); got != want {
			t.Errorf("Hash(%q) = %x, want %x", s, got, want)
		}
	}
}

func TestHashAgainstModel(t *testing.T) {
	for _, s := range manyIDs() {
		if got, want := ring.Hash(s), modelHash(s); got != want {
			t.Errorf("Hash(%q) = %x, want %x", s, got, want)
		}
	}
	for a := range 256 {
		for b := range 256 {
			s := string([]byte{byte(a), byte(b)})
			if ring.Hash(s) != modelHash(s) || ring.Hash(s[:1]) != modelHash(s[:1]) {
				t.Fatalf("Hash(%q) = %x", s, ring.Hash(s))
			}
		}
	}
}

// P13.2

func TestShard(t *testing.T) {
	checkShard(t, "a", 1, 0, api.OK)
	checkShard(t, "a", 9, 0, api.ErrArg)
	for id, want := range map[string][8]int{
		"":                                 {0, 1, 1, 1, 4, 4, 4, 4},
		"a":                                {0, 1, 1, 1, 4, 4, 4, 4},
		"b":                                {0, 0, 0, 0, 0, 5, 5, 5},
		"\xff":                             {0, 0, 0, 0, 0, 0, 0, 7},
		"shard-0-0":                        {0, 0, 0, 0, 0, 0, 0, 0},
		"shard-7-15":                       {0, 1, 1, 1, 1, 1, 1, 7},
		"e0123456789012345678901234567890": {0, 1, 2, 2, 2, 2, 2, 2},
	} {
		for i, s := range want {
			checkShard(t, id, i+1, s, api.OK)
		}
	}
}

func TestShardRefuses(t *testing.T) {
	for _, id := range []string{"", "a", "shard-0-0"} {
		for _, shards := range []int{math.MinInt, -8, -1, 0, api.MaxShards + 1, 16, math.MaxInt} {
			checkShard(t, id, shards, 0, api.ErrArg)
		}
		if _, e := ring.Shard(id, api.MaxShards); e != api.OK {
			t.Errorf("Shard(%q, %d): %d", id, api.MaxShards, e)
		}
	}
}

func TestIDAtAPoint(t *testing.T) {
	// The name of a point is an id that stands at its very place.
	for shards := 1; shards <= api.MaxShards; shards++ {
		for s := range shards {
			for k := range ring.Points {
				checkShard(t, fmt.Sprintf("shard-%d-%d", s, k), shards, s, api.OK)
			}
		}
	}
}

func TestIDsOfEachArc(t *testing.T) {
	// Ids between each two points, ahead of the least and behind the greatest one, till each has been met.
	for shards := 1; shards <= api.MaxShards; shards++ {
		l := modelPoints(shards)
		met := make([]bool, len(l)+1)
		left := len(met)
		for i := 0; left > 0 && i < 1<<20; i++ {
			id := fmt.Sprintf("arc-%d", i)
			h := modelHash(id)
			arc, _ := slices.BinarySearchFunc(l, h, func(p point, h uint64) int {
				if p.place < h {
					return -1
				}
				return 1
			})
			if met[arc] {
				continue
			}
			met[arc] = true
			left--
			checkShard(t, id, shards, l[arc%len(l)].shard, api.OK)
		}
		// What lies too near to one another for any of so many ids is left out, but neither end is.
		if !met[0] || !met[len(l)] || left > 2 {
			t.Errorf("of %d shards %d arcs had no id", shards, left)
		}
	}
}

func TestShardAgainstModel(t *testing.T) {
	for shards := 1; shards <= api.MaxShards; shards++ {
		l := modelPoints(shards)
		for _, id := range manyIDs() {
			checkShard(t, id, shards, modelShard(l, id), api.OK)
		}
	}
}

func TestNoTwoPointsAtOnePlace(t *testing.T) {
	// Which shard's goes first at one place is to be seen at no id, as there is none such.
	l := modelPoints(api.MaxShards)
	for i := 1; i < len(l); i++ {
		if l[i].place == l[i-1].place {
			t.Errorf("%v and %v", l[i-1], l[i])
		}
	}
}

// P13.3

func TestOneShardMore(t *testing.T) {
	for _, id := range manyIDs() {
		last := 0
		for shards := 1; shards <= api.MaxShards; shards++ {
			s, e := ring.Shard(id, shards)
			if e != api.OK || s != last && s != shards-1 {
				t.Fatalf("%q comes from %d to %d of %d, %d", id, last, s, shards, e)
			}
			last = s
		}
	}
}

func TestEachShardHasSomeIDs(t *testing.T) {
	for shards := 1; shards <= api.MaxShards; shards++ {
		many := make([]int, shards)
		for _, id := range manyIDs() {
			s, _ := ring.Shard(id, shards)
			many[s]++
		}
		if slices.Min(many) == 0 {
			t.Errorf("of %d shards: %v", shards, many)
		}
	}
}

// P1, P2

func TestLongIDAndTheSameAnswer(t *testing.T) {
	long := strings.Repeat("x", 1<<22)
	if ring.Hash(long) != modelHash(long) {
		t.Error("Hash of a long text")
	}
	checkShard(t, long, 8, modelShard(modelPoints(8), long), api.OK)
	for _, id := range manyIDs() {
		one, _ := ring.Shard(id, 5)
		ring.Shard(id+"x", 8)
		ring.Shard(id, 9)
		checkShard(t, id, 5, one, api.OK)
	}
}
