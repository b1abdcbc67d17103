package http_test

import (
	"math/rand"
	"regexp"
	"strconv"
	"strings"
	"testing"

	"fascine/api"
	"fascine/http"
)

// The model cuts the bytes at each 0a, tells each line by patterns, and asks of the whole head how often a line stands in it.

var (
	rightFirst  = regexp.MustCompile(`^([a-zA-Z0-9_-]+) (/[!-~]*) HTTP/1\.1$`)
	rightLine   = regexp.MustCompile(`^[a-zA-Z0-9_-]+:[^\x00-\x08\x0a-\x1f\x7f]*$`)
	hostLine    = regexp.MustCompile(`(?m)^[hH][oO][sS][tT]:`)
	codingLine  = regexp.MustCompile(`(?m)^[tT][rR][aA][nN][sS][fF][eE][rR]-[eE][nN][cC][oO][dD][iI][nN][gG]:`)
	closingLine = regexp.MustCompile(`(?m)^[cC][oO][nN][nN][eE][cC][tT][iI][oO][nN]:[ \t]*[cC][lL][oO][sS][eE][ \t]*$`)
	lengthLine  = regexp.MustCompile(`(?m)^[cC][oO][nN][tT][eE][nN][tT]-[lL][eE][nN][gG][tT][hH]:`)
	rightLength = regexp.MustCompile(`(?m)^[cC][oO][nN][tT][eE][nN][tT]-[lL][eE][nN][gG][tT][hH]:[ \t]*(0|[1-9][0-9]{0,8})[ \t]*$`)
)

// modelHead: the lines ahead of the empty one, each without its end, and how many bytes they have, the empty one too; else a state.
func modelHead(p string) ([]string, int, int) {
	var head []string
	used := 0
	for i, piece := range strings.SplitAfter(p, "\n") {
		used += len(piece)
		there := strings.HasSuffix(piece, "\n")
		switch {
		case i > 32, !there && len(p) > 2048, there && used > 2048:
			return nil, 0, 431
		case !there:
			return nil, 0, 0
		case !strings.HasSuffix(piece, "\r\n"):
			return nil, 0, 400
		case piece == "\r\n" && i > 0:
			return head, used, 0
		}
		head = append(head, strings.TrimSuffix(piece, "\r\n"))
	}
	panic("the model has read behind the end")
}

func modelRead(p string) (api.Request, int, int) {
	head, used, state := modelHead(p)
	if head == nil {
		return api.Request{}, 0, state
	}
	first := rightFirst.FindStringSubmatch(head[0])
	bad := first == nil
	for _, line := range head[1:] {
		bad = bad || !rightLine.MatchString(line)
	}
	rest := strings.Join(head[1:], "\n")
	lengths := rightLength.FindAllStringSubmatch(rest, -1)
	if bad || codingLine.MatchString(rest) || len(lengths) > 1 || len(hostLine.FindAllString(rest, -1)) != 1 || len(lengths) != len(lengthLine.FindAllString(rest, -1)) {
		return api.Request{}, 0, 400
	}
	size := 0
	if len(lengths) == 1 {
		size, _ = strconv.Atoi(lengths[0][1])
	}
	switch {
	case size > 8192:
		return api.Request{}, 0, 413
	case used+size > len(p):
		return api.Request{}, 0, 0
	}
	return api.Request{Method: first[1], Path: first[2], Body: p[used : used+size], Close: closingLine.MatchString(rest)}, used + size, 0
}

func holdAgainstModel(t *testing.T, p string) int {
	t.Helper()
	want, size, state := modelRead(p)
	if q, n, s := http.Read(p); q != want || n != size || s != state {
		t.Errorf("Read(%.3000q) = %s, %d, %d, want %s, %d, %d", p, brief(q), n, s, brief(want), size, state)
	}
	if state == 0 && size > 0 {
		return 200
	}
	return state
}

func TestEachShortHead(t *testing.T) {
	pieces := []string{"GET / HTTP/1.1", "\r\n", "\n", "\r", "Host:x", "content-length: 1", "a:b", " ", "z"}
	met := map[int]int{}
	var each func(s string, n int)
	each = func(s string, n int) {
		met[holdAgainstModel(t, s)]++
		if n == 0 || t.Failed() {
			return
		}
		for _, piece := range pieces {
			each(s+piece, n-1)
		}
	}
	each("", 6)
	each("GET / HTTP/1.1\r\nHost:x\r\n", 5)
	each("GET / HTTP/1.1\r\nHost:x\r\ncontent-length:1\r\n", 4)
	if met[200] < 50 || met[400] < 1000 || met[0] < 1000 {
		t.Errorf("the heads came to %v", met)
	}
}

// Each byte in each part of a line.
func TestEachByteOfALine(t *testing.T) {
	met := map[int]int{}
	for c := range 256 {
		s := string([]byte{byte(c)})
		for _, first := range []string{s, "G" + s + "T / HTTP/1.1", s + "GET / HTTP/1.1", "GET" + s + "/ HTTP/1.1", "GET " + s + " HTTP/1.1", "GET " + s + "/ HTTP/1.1", "GET /" + s + " HTTP/1.1", "GET /a" + s + "b HTTP/1.1", "GET /" + s + "HTTP/1.1", "GET / HTTP/1" + s + "1", "GET / HTTP/1.1" + s, "GET / HTTP/1." + s} {
			met[holdAgainstModel(t, lines(first, "Host: x", ""))]++
		}
		for _, line := range []string{s, s + ":b", "a" + s + ":b", s + "a:b", "a" + s + "b", "a:" + s, "a: b" + s, "a:b" + s + "c", "Host" + s + "x", "Host:" + s, "hos" + s + ":x", "connection:" + s + "close", "connection:close" + s, "connection:clo" + s + "e",
			"Content-Length:" + s, "Content-Length:" + s + "1", "Content-Length:1" + s, "Content-Length:1" + s + "2", "Content-Lengt" + s + ":2", "Transfer" + s + "Encoding:x", "Transfer-Encoding" + s} {
			met[holdAgainstModel(t, asked(line)+"zz")]++
			met[holdAgainstModel(t, asked(line, "a:b")+strings.Repeat("z", 12))]++
		}
	}
	if met[200] < 1000 || met[400] < 1000 || met[0] < 10 {
		t.Errorf("the lines came to %v", met)
	}
}

func choice(r *rand.Rand, l ...string) string {
	return l[r.Intn(len(l))]
}

// request: one by chance, most often right.
func request(r *rand.Rand) string {
	p := choice(r, "GET", "POST", "get", "X-1_y") + " " + choice(r, "/", "/docs", "/a?b=c~!") + " HTTP/1.1\r\n"
	size := choice(r, "", "0", "1", "5", "17", "8192", "8193", "999999999")
	var l []string
	if size != "" && r.Intn(8) > 0 {
		l = append(l, choice(r, "Content-Length:", "content-length: ", "CONTENT-length:\t")+size+choice(r, "", " ", "\t "))
	}
	l = append(l, choice(r, "Host: x", "host:", "HOST:\ty z"))
	for range r.Intn(4) * r.Intn(3) {
		l = append(l, choice(r, "a:b", "X-y_0: \xff é", "Connection: close", "connection:CLOSE", "Connection: keep-alive", "Accept: */*", "Host: y", "content-length:3", "a: \t b\tc "))
	}
	if r.Intn(12) == 0 {
		l = append(l, strings.Repeat("c", 1+r.Intn(2))+":"+strings.Repeat("d", 1900+r.Intn(150)))
	}
	for range r.Intn(2) * r.Intn(2) * r.Intn(2) * r.Intn(40) {
		l = append(l, "e:")
	}
	r.Shuffle(len(l), func(i, j int) { l[i], l[j] = l[j], l[i] })
	many, _ := strconv.Atoi(size)
	return p + strings.Join(l, "\r\n") + "\r\n\r\n" + strings.Repeat("z", min(many, 8200)-r.Intn(2)*r.Intn(2)+1)
}

// turned: bytes of which some were changed.
func turned(r *rand.Rand, p string) string {
	at := r.Intn(min(len(p), 300))
	end := min(len(p), at+r.Intn(3))
	between := choice(r, "\r", "\n", "\r\n", "\r\n\r\n", ":", " ", "\t", "\x00", "\x7f", "\xff", "a", "0", "9", "-", "/", "Host:x\r\n", "Content-Length:2\r\n", "transfer-encoding:\r\n", "\r\nconnection:close\r\n")
	switch r.Intn(4) {
	case 0:
		return p[:at]
	case 1:
		return p[:at] + p[end:]
	case 2:
		return p[:at] + between + p[at:]
	}
	return p[:at] + between + p[end:]
}

func TestRequestsByChance(t *testing.T) {
	r := rand.New(rand.NewSource(14))
	met := map[int]int{}
	for range 30000 {
		p := request(r)
		met[holdAgainstModel(t, p)]++
		for range r.Intn(4) {
			if p != "" {
				p = turned(r, p)
			}
			met[holdAgainstModel(t, p)]++
		}
	}
	for _, state := range []int{200, 0, 400, 413, 431} {
		if met[state] < 500 {
			t.Errorf("the requests came to %v", met)
		}
	}
}

var rightAnswer = regexp.MustCompile(`^HTTP/1\.1 ([1-9][0-9]{2}) ([A-Za-z ]+)\r\nContent-Type: application/json\r\nContent-Length: (0|[1-9][0-9]*)\r\n(?:Connection: close\r\n)?\r\n`)

func modelAnswer(p string) (int, string, int) {
	l := rightAnswer.FindStringSubmatch(p)
	if l == nil {
		return 0, "", 0
	}
	state, _ := strconv.Atoi(l[1])
	size, err := strconv.Atoi(l[3])
	if l[2] != wordsOf(state) || err != nil || size > len(p)-len(l[0]) {
		return 0, "", 0
	}
	end := len(l[0]) + size
	return state, p[len(l[0]):end], end
}

func TestAnswersByChance(t *testing.T) {
	r := rand.New(rand.NewSource(15))
	found, none := 0, 0
	for range 50000 {
		p, _ := http.Write([]int{200, 201, 299, 404, 503, 100, 999}[r.Intn(7)], choice(r, "", "{}", "\r\n\r\n", "a body of 18 bytes"), r.Intn(2) == 0)
		p += choice(r, "", p, "x")
		for range r.Intn(3) {
			if p != "" {
				p = turned(r, p)
			}
		}
		state, body, n := modelAnswer(p)
		checkAnswer(t, p, state, body, n)
		if n == 0 {
			none++
			continue
		}
		found++
		// What is told as an answer is one of Write's, and stands at the front.
		one, _ := http.Write(state, body, false)
		other, _ := http.Write(state, body, true)
		if p[:n] != one && p[:n] != other {
			t.Errorf("Answer(%q) = %d, %q, %d", p, state, body, n)
		}
	}
	if found < 1000 || none < 1000 {
		t.Errorf("%d were answers, %d were none", found, none)
	}
}
