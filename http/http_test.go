package http_test

import (
	"fmt"
	"math"
	"strconv"
	"strings"
	"testing"
	"unsafe"

	"fascine/api"
	"fascine/http"
)

// The signatures that the chapter lists.
var (
	_ func(string) (api.Request, int, int)                              = http.Read
	_ func(state int, body string, last bool) (r0 string, r1 api.Errno) = http.Write
	_ func(string) (int, string, int)                                   = http.Answer
)

// lines: each with its end.
func lines(l ...string) string {
	return strings.Join(l, "\r\n") + "\r\n"
}

// asked: a request with these lines behind its first one and its host.
func asked(l ...string) string {
	return lines(append(append([]string{"POST /docs HTTP/1.1", "Host: x"}, l...), "")...)
}

// brief: the beginning of what a request tells.
func brief(q api.Request) string {
	return fmt.Sprintf("%.200q", fmt.Sprint(q))
}

// checkRead: the request is there, its bytes alone and with others behind them.
func checkRead(t *testing.T, p string, want api.Request) {
	t.Helper()
	for _, behind := range []string{"", "GET", "GET / HTTP/1.1\r\n\r\n", "\n", "\x00\xff", strings.Repeat("x", 3000)} {
		if q, n, state := http.Read(p + behind); q != want || n != len(p) || state != 0 {
			t.Errorf("Read(%.200q and %d bytes) = %s, %d, %d, want %s, %d", p, len(behind), brief(q), n, state, brief(want), len(p))
		}
	}
	// Without its end it isn't there whole, but nor is it refused.
	for i := range min(len(p), api.MaxHead) {
		checkState(t, p[:i], 0)
	}
	checkState(t, p[:len(p)-1], 0)
}

// checkState: the request is refused with that, or with 0 not there whole.
func checkState(t *testing.T, p string, want int) {
	t.Helper()
	if q, n, state := http.Read(p); q != (api.Request{}) || n != 0 || state != want {
		t.Errorf("Read(%.200q of %d bytes) = %s, %d, %d, want %d", p, len(p), brief(q), n, state, want)
	}
}

// P12.1

func TestReadOfTheChapter(t *testing.T) {
	p := "GET /table HTTP/1.1\r\nHost: x\r\n\r\n"
	checkRead(t, p, api.Request{Method: "GET", Path: "/table"})
	checkState(t, p[:len(p)-1], 0)
	checkState(t, "GET /table HTTP/1.0\r\nHost: x\r\n\r\n", 400)
	checkState(t, "POST /docs HTTP/1.1\r\nHost: x\r\nContent-Length: 9000\r\n\r\n", 413)
}

func TestReadWithABody(t *testing.T) {
	for _, body := range []string{"", "x", "{\"id\":\"a\"}", "\r\n\r\n", "\n", "a\x00\xff é", "GET / HTTP/1.1\r\nHost: y\r\n\r\n", strings.Repeat("b", api.MaxBody)} {
		want := api.Request{Method: "POST", Path: "/docs", Body: body}
		length := "Content-Length: " + strconv.Itoa(len(body))
		checkRead(t, asked(length)+body, want)
		want.Close = true
		checkRead(t, asked("Connection: close", length)+body, want)
		checkRead(t, asked(length, "Connection: close")+body, want)
	}
	checkRead(t, asked("Content-Length: 0"), api.Request{Method: "POST", Path: "/docs"})
	// Without a length there is no body.
	q, n, state := http.Read(asked() + "abc")
	if q.Body != "" || n != len(asked()) || state != 0 {
		t.Errorf("Read = %s, %d, %d", brief(q), n, state)
	}
}

func TestReadOneBehindAnother(t *testing.T) {
	p := asked("Content-Length: 3") + "one" + asked() + asked("Content-Length: 2", "Connection: CLOSE") + "\r\n" + "GET"
	for _, want := range []api.Request{{Body: "one"}, {}, {Body: "\r\n", Close: true}} {
		want.Method, want.Path = "POST", "/docs"
		q, n, state := http.Read(p)
		if q != want || n == 0 || state != 0 {
			t.Fatalf("Read(%q) = %s, %d, %d, want %s", p, brief(q), n, state, brief(want))
		}
		p = p[n:]
	}
	checkState(t, p, 0)
	checkState(t, "", 0)
}

func TestReadOfFirstLines(t *testing.T) {
	for _, method := range []string{"GET", "get", "Post", "A", "0", "-", "_", "M-SEARCH", "a_b-9", "HTTP"} {
		for _, path := range []string{"/", "/a", "//", "/docs?x=1&y=2", "/~!@#$%^&*()", "/\"<>\\`{|}", "/HTTP/1.1", "/%zz"} {
			checkRead(t, lines(method+" "+path+" HTTP/1.1", "Host: x", ""), api.Request{Method: method, Path: path})
		}
	}
	for _, first := range []string{
		"", " ", "GET", "GET /", "GET / ", "GET  HTTP/1.1", " / HTTP/1.1", "/ HTTP/1.1", "GET HTTP/1.1", "GET/ HTTP/1.1", "GET /HTTP/1.1",
		" GET / HTTP/1.1", "GET  / HTTP/1.1", "GET /  HTTP/1.1", "GET / HTTP/1.1 ", "GET / a HTTP/1.1", "GET / HTTP/1.1 x", "GET\t/ HTTP/1.1", "GET /\tHTTP/1.1", "\tGET / HTTP/1.1",
		"G:T / HTTP/1.1", "G.T / HTTP/1.1", "G/T / HTTP/1.1", "GÉT / HTTP/1.1", "G\x00T / HTTP/1.1", "G\xffT / HTTP/1.1", "G\x7fT / HTTP/1.1", "(GET) / HTTP/1.1", "G+ / HTTP/1.1",
		"GET a HTTP/1.1", "GET * HTTP/1.1", "GET a/b HTTP/1.1", "GET http://x/ HTTP/1.1", "GET /\x7f HTTP/1.1", "GET /é HTTP/1.1", "GET /\x80 HTTP/1.1", "GET /a\x1f HTTP/1.1", "GET /\x00 HTTP/1.1", "GET /\xff HTTP/1.1", "GET \\ HTTP/1.1",
		"GET / HTTP/1.0", "GET / HTTP/2", "GET / HTTP/1.10", "GET / HTTP/1.", "GET / HTTP/11", "GET / http/1.1", "GET / Http/1.1", "GET / HTTP/1,1", "GET / HTTPS/1.1", "GET / xHTTP/1.1", "GET / HTTP/1.1\r", "\rGET / HTTP/1.1", "GET / HTTP/1.1x", "GET / /", "Host: x",
	} {
		checkState(t, lines(first, "Host: x", ""), 400)
		// Nothing is said of the first line till the lines are there.
		checkState(t, lines(first, "Host: x"), 0)
		checkState(t, lines(first), 0)
	}
}

func TestReadOfLines(t *testing.T) {
	want := api.Request{Method: "POST", Path: "/docs"}
	for _, line := range []string{
		"a:", "a:b", "A: b", "a:\t \tb \t ", "a: b c", "a: b\tc", "a: :", "a::", "a: \xff\x80", "a: é", "_:x", "-:x", "9:x", "X-Y_z-0: (a), \"b\"; q=~!\\", "a:" + strings.Repeat(" ", 100),
		"Content-Type: application/json", "Accept: */*", "Host2: y", "X-Host: y", "Contentlength: x", "Content_Length: x", "Transfer-Encodin: chunked", "TransferEncoding: x", "Connections: close", "Close: close",
	} {
		checkRead(t, asked(line), want)
		checkRead(t, asked(line, line), want)
		checkRead(t, lines("POST /docs HTTP/1.1", line, "Host: x", line, ""), want)
	}
	for _, line := range []string{
		"a", "a b", ":", ":a", " :a", " a: b", "\ta: b", " ", "\t", "a : b", "a\t: b", "a b: c", "a.b: c", "a/b: c", "(a): c", "a\": c", "é: c", "a\x00: c", "a\xff: c", "a\x7f: b", "a@: b", "a[: b", "a`: b", "a{: b", "a,b: c",
		"a: \x00", "a: b\x01", "a: b\x08c", "a: b\x0bc", "a: b\x1fc", "a: \x7f", "a: b\x7f", "a: b\rc", "a: b\r", "a: \r", "\r", "a:\x0c",
	} {
		checkState(t, asked(line), 400)
		checkState(t, asked("b: c", line, "d: e"), 400)
		checkState(t, lines("POST /docs HTTP/1.1", line, "Host: x", ""), 400)
		checkState(t, lines("POST /docs HTTP/1.1", "Host: x", line), 0)
	}
}

func TestReadOfHosts(t *testing.T) {
	want := api.Request{Method: "GET", Path: "/"}
	for _, host := range []string{"Host: x", "host:x", "HOST: a b, c", "hOsT:", "Host: \t", "Host: \xff"} {
		checkRead(t, lines("GET / HTTP/1.1", host, ""), want)
		checkState(t, lines("GET / HTTP/1.1", host, host, ""), 400)
		checkState(t, lines("GET / HTTP/1.1", host, "a: b", "host: y", ""), 400)
	}
	checkState(t, lines("GET / HTTP/1.1", ""), 400)
	checkState(t, lines("GET / HTTP/1.1", "a: b", "X-Host: x", ""), 400)
	checkState(t, lines("GET / HTTP/1.1", "Content-Length: 5", ""), 400)
}

func TestReadOfLengths(t *testing.T) {
	for _, name := range []string{"Content-Length", "content-length", "CONTENT-LENGTH", "cOnTeNt-lEnGtH"} {
		for _, form := range []string{"%s:%d", "%s: %d", "%s:\t %d \t"} {
			for _, n := range []int{0, 1, 9, 10, 100, 8191, 8192} {
				body := strings.Repeat("z", n)
				checkRead(t, asked(fmt.Sprintf(form, name, n))+body, api.Request{Method: "POST", Path: "/docs", Body: body})
			}
			for _, n := range []int{8193, 9000, 10000, 99999, 123456789, 999999999} {
				checkState(t, asked(fmt.Sprintf(form, name, n)), 413)
				checkState(t, asked(fmt.Sprintf(form, name, n))+strings.Repeat("z", 8193), 413)
			}
		}
	}
	for _, s := range []string{
		"", " ", "a", "00", "01", "007", "000000000", "-1", "-0", "+1", "+0", "1.0", "1e3", "0x1", "0b1", "1_0", "1 0", "1,1", "5, 5", "5;", "1a", "a1", "1\xff", "\u0661", "٣", "1é", "\"5\"",
		"1000000000", "8192000000", "9999999999", "0000000001", "9223372036854775807", "18446744073709551617", strings.Repeat("1", 100),
	} {
		checkState(t, asked("Content-Length: "+s), 400)
		checkState(t, asked("Content-Length: "+s)+"zzzzz", 400)
	}
	for _, n := range []string{"0", "5", "9000"} {
		checkState(t, asked("Content-Length: "+n, "Content-Length: "+n)+"zzzzz", 400)
		checkState(t, asked("content-length: "+n, "a: b", "Content-Length: 3")+"zzzzz", 400)
		checkState(t, asked("Content-Length: 3", "Content-Length: "+n)+"zzzzz", 400)
	}
}

func TestReadOfTransferEncodings(t *testing.T) {
	for _, line := range []string{"Transfer-Encoding: chunked", "transfer-encoding:", "TRANSFER-ENCODING: identity", "Transfer-encoding: \t"} {
		checkState(t, asked(line), 400)
		checkState(t, asked("Content-Length: 0", line), 400)
		checkState(t, asked(line, "Content-Length: 9000"), 400)
	}
}

func TestReadOfConnections(t *testing.T) {
	last := api.Request{Method: "POST", Path: "/docs", Close: true}
	for _, line := range []string{"Connection: close", "connection:close", "CONNECTION: CLOSE", "Connection:\t Close \t", "cOnnection: cLoSe"} {
		checkRead(t, asked(line), last)
		checkRead(t, asked("Connection: keep-alive", line), last)
		checkRead(t, asked(line, "Connection: keep-alive", "Connection:"), last)
		checkRead(t, asked(line, line), last)
	}
	last.Close = false
	for _, line := range []string{"Connection:", "Connection: keep-alive", "Connection: closed", "Connection: clos", "Connection: close, x", "Connection: \"close\"", "Connection: c lose", "Connection: clo\u017fe", "Connection: CLO\u017fE", "Connection: close\xff", "X-Connection: close"} {
		checkRead(t, asked(line), last)
		checkRead(t, asked(line, "a: close"), last)
	}
}

// Two names that differ in more than the letters' greatness are two names.
func TestReadOfOtherSigns(t *testing.T) {
	checkState(t, lines("GET / HTTP/1.1", "Ho\u017ft: x", ""), 400)
	checkState(t, lines("GET / HTTP/1.1", "Host: x", "ho\u017ft: x", ""), 400)
	checkState(t, asked("Tran\u017ffer-Encoding: x"), 400)
}

func TestReadOfLineEnds(t *testing.T) {
	for _, p := range []string{
		"\n", "GET / HTTP/1.1\n", "GET / HTTP/1.1\r\nHost: x\n", "GET / HTTP/1.1\nHost: x\r\n\r\n", "GET / HTTP/1.1\r\nHost: x\r\n\n", "GET / HTTP/1.1\r\nHost: x\n\r\n", "\n\r\n", "\r\n\n", "GET / HTTP/1.1\n\r",
		"nonsense\n", "\x00\n", "a\r \n", "GET / HTTP/1.1\r\n\n",
	} {
		checkState(t, p, 400)
		checkState(t, p+"Host: x\r\n\r\n", 400)
	}
	for _, p := range []string{"\r", "\r\n", "nonsense", "\x00\xff", "nonsense\r\n", "GET / HTTP/1.1\r", "GET / HTTP/1.1\r\n\r", "GET / HTTP/1.1\r\nHost: x\r\nHost: y\r\n", "\r\r\n", "\r\n\r"} {
		checkState(t, p, 0)
	}
	// The first line may be empty, and then it is one that isn't as said; the next empty one ends the lines.
	checkState(t, "\r\n\r\n", 400)
	checkState(t, "\r\nGET / HTTP/1.1\r\nHost: x\r\n\r\n", 400)
	checkState(t, "\r\r\n\r\n", 400)
	checkState(t, "GET / HTTP/1.1\r\nHost: x\r\n\r\r\n\r\n", 400)
}

func TestReadOfManyLines(t *testing.T) {
	more := func(n int) string {
		return "POST /docs HTTP/1.1\r\nHost: x\r\n" + strings.Repeat("a:b\r\n", n-2)
	}
	want := api.Request{Method: "POST", Path: "/docs"}
	checkRead(t, more(31)+"\r\n", want)
	checkRead(t, more(api.MaxLines)+"\r\n", want)
	checkState(t, more(api.MaxLines)+"a:b", 0)
	checkState(t, more(api.MaxLines), 0)
	// One line more is one too many, whatever is behind it.
	for _, behind := range []string{"", "\r", "\r\n", "\n", "a", "a:b\r\n\r\n", strings.Repeat("a", 3000)} {
		checkState(t, more(api.MaxLines+1)+behind, 431)
	}
	checkState(t, more(100)+"\r\n", 431)
	checkState(t, strings.Repeat("x\r\n", 33), 431)
	checkState(t, "\r\n"+strings.Repeat("x\r\n", 31), 0)
	checkState(t, "\r\n"+strings.Repeat("x\r\n", 32), 431)
	// What is wrong in a line's end goes ahead of lines behind it; what is wrong in a line doesn't.
	checkState(t, more(20)+"\n"+strings.Repeat("x\r\n", 33), 400)
	checkState(t, more(32)+"\n", 400)
	checkState(t, strings.Repeat("\x00\r\n", 33), 431)
}

func TestReadOfLongLines(t *testing.T) {
	// headed: lines of so many bytes in all, the empty one too.
	headed := func(n int) string {
		rest := n - len(asked("a:"))
		return asked("a:" + strings.Repeat("b", rest))
	}
	want := api.Request{Method: "POST", Path: "/docs"}
	checkRead(t, headed(2047), want)
	checkRead(t, headed(api.MaxHead), want)
	p := asked("Content-Length: 8192", "a:")
	p = asked("Content-Length: 8192", "a:"+strings.Repeat("b", api.MaxHead-len(p)))
	body := strings.Repeat("c", api.MaxBody)
	checkRead(t, p+body, api.Request{Method: "POST", Path: "/docs", Body: body})
	for n := api.MaxHead + 1; n < api.MaxHead+5; n++ {
		checkState(t, headed(n), 431)
		checkState(t, headed(n)+"abc", 431)
	}
	// Of the lines that are too long the last is the empty one, or another; its end is looked for in all bytes.
	checkState(t, headed(2049)[:2048], 0)
	checkState(t, headed(2050)[:2048], 0)
	checkState(t, headed(2050)[:2049], 431)
	checkState(t, headed(3000), 431)
	for _, sign := range []string{"x", "\r", "\x00"} {
		checkState(t, strings.Repeat(sign, 2048), 0)
		checkState(t, strings.Repeat(sign, 2049), 431)
		checkState(t, strings.Repeat(sign, 2048)+"\n", 431)
		checkState(t, strings.Repeat(sign, 5000)+"\n", 431)
		checkState(t, "GET / HTTP/1.1\r\n"+strings.Repeat(sign, 2048), 431)
		checkState(t, "GET / HTTP/1.1\r\n"+strings.Repeat(sign, 2032), 0)
	}
	checkState(t, strings.Repeat("x", 2047)+"\n", 400)
	checkState(t, strings.Repeat("\r", 2047)+"\n", 0)
	// A line's end that isn't right goes ahead, if it is nearer.
	checkState(t, "x\n"+strings.Repeat("x", 5000), 400)
	checkState(t, strings.Repeat("x\r\n", 10)+"\n"+strings.Repeat("x", 5000), 400)
}

func TestReadOfWhatIsAskedFirst(t *testing.T) {
	long := "Content-Length: 9000"
	// 413 is said behind all that is 400, and ahead of the body.
	checkState(t, asked(long), 413)
	checkState(t, asked(long, "a"), 400)
	checkState(t, asked("a", long), 400)
	checkState(t, asked(long, "Host: y"), 400)
	checkState(t, lines("GET / HTTP/1.1", long, ""), 400)
	checkState(t, lines("GET / HTTP/1.0", "Host: x", long, ""), 400)
	checkState(t, asked(long, "Transfer-Encoding: x"), 400)
	// None of it is said ahead of the empty line, nor behind too many lines.
	checkState(t, lines("GET", "x", long, long), 0)
	checkState(t, asked(long)[:len(asked(long))-2]+strings.Repeat("x\r\n", 30), 431)
	// A body that isn't there whole doesn't hide what is refused.
	checkState(t, asked("Content-Length: 5", "a")+"zz", 400)
	checkState(t, asked("Content-Length: 5")+"zzzz", 0)
}

// P12.2

// wordsOf: the words of a state.
func wordsOf(state int) string {
	words := map[int]string{
		200: "OK", 201: "Created", 400: "Bad Request", 404: "Not Found", 405: "Method Not Allowed", 409: "Conflict", 410: "Gone", 413: "Content Too Large", 431: "Request Header Fields Too Large",
		503: "Service Unavailable", 504: "Gateway Timeout", 507: "Insufficient Storage",
	}
	if word, ok := words[state]; ok {
		return word
	}
	return "Unknown"
}

func TestWrite(t *testing.T) {
	for state := 100; state <= 999; state++ {
		for _, body := range []string{"", "{}", "a\r\n\r\nb", "\xff\x00é", strings.Repeat("x", 12345)} {
			want := fmt.Sprintf("HTTP/1.1 %d %s\r\nContent-Type: application/json\r\nContent-Length: %d\r\n", state, wordsOf(state), len(body))
			if s, e := http.Write(state, body, false); s != want+"\r\n"+body || e != api.OK {
				t.Errorf("Write(%d, %.40q, false) = %.200q, %d", state, body, s, e)
			}
			if s, e := http.Write(state, body, true); s != want+"Connection: close\r\n\r\n"+body || e != api.OK {
				t.Errorf("Write(%d, %.40q, true) = %.200q, %d", state, body, s, e)
			}
		}
	}
	for _, state := range []int{math.MinInt, -200, -100, -1, 0, 1, 20, 99, 1000, 1001, 2000, 1 << 32, 1<<32 + 200, math.MaxInt} {
		for _, last := range []bool{false, true} {
			if s, e := http.Write(state, "{}", last); s != "" || e != api.ErrArg {
				t.Errorf("Write(%d) = %q, %d", state, s, e)
			}
		}
	}
}

// P12.3

func checkAnswer(t *testing.T, p string, state int, body string, n int) {
	t.Helper()
	if s, b, m := http.Answer(p); s != state || b != body || m != n {
		t.Errorf("Answer(%.200q) = %d, %.40q, %d, want %d, %.40q, %d", p, s, b, m, state, body, n)
	}
}

func TestAnswer(t *testing.T) {
	for state := 100; state <= 999; state++ {
		for _, last := range []bool{false, true} {
			for _, body := range []string{"", "{}", "\r\n", "Connection: close\r\n\r\n", "HTTP/1.1 200 OK\r\n", "\xff\x00é", strings.Repeat("x", 1234)} {
				p, _ := http.Write(state, body, last)
				checkAnswer(t, p, state, body, len(p))
				for _, behind := range []string{"x", "\r\n", "HTTP/1.1 200 OK\r\n", p} {
					checkAnswer(t, p+behind, state, body, len(p))
				}
				checkAnswer(t, p[:len(p)-1], 0, "", 0)
			}
		}
	}
	for _, last := range []bool{false, true} {
		p, _ := http.Write(431, "a body", last)
		for i := range p {
			checkAnswer(t, p[:i], 0, "", 0)
		}
	}
}

func TestAnswerOfOtherBytes(t *testing.T) {
	const head = "HTTP/1.1 200 OK\r\nContent-Type: application/json\r\nContent-Length: 2\r\n"
	checkAnswer(t, head+"\r\n{}", 200, "{}", len(head)+4)
	checkAnswer(t, head+"Connection: close\r\n\r\n{}", 200, "{}", len(head)+23)
	for _, p := range []string{
		"", "\r\n", "HTTP/1.1", "HTTP/1.1 ", "HTTP/1.1 200", "{}", " " + head + "\r\n{}", "x" + head + "\r\n{}", head + "{}", head + "\n{}", head + "\r\r\n{}", head + "a: b\r\n\r\n{}",
		head + "connection: close\r\n\r\n{}", head + "Connection: close\r\n{}", head + "Connection: close\n\r\n{}", head + "Connection: close\r\nConnection: close\r\n\r\n{}", head + "Connection: keep-alive\r\n\r\n{}", head + "Connection:close\r\n\r\n{}",
	} {
		checkAnswer(t, p, 0, "", 0)
	}
	const rest = "\r\nContent-Type: application/json\r\nContent-Length: 2\r\n\r\n{}"
	for _, first := range []string{
		"HTTP/1.1 200 Ok", "HTTP/1.1 200", "HTTP/1.1 200 ", "HTTP/1.1 200 OK ", "HTTP/1.1  200 OK", "HTTP/1.1 200  OK", "HTTP/1.0 200 OK", "http/1.1 200 OK", "HTTP/1.1 201 OK", "HTTP/1.1 200 Created", "HTTP/1.1 200 Unknown", "HTTP/1.1 299 OK",
		"HTTP/1.1 099 Unknown", "HTTP/1.1 99 Unknown", "HTTP/1.1 000 Unknown", "HTTP/1.1 0 Unknown", "HTTP/1.1 1000 Unknown", "HTTP/1.1 0200 OK", "HTTP/1.1 -20 Unknown", "HTTP/1.1 +20 Unknown", "HTTP/1.1 2e2 OK", "HTTP/1.1 20 OK", "HTTP/1.1 abc Unknown", "HTTP/1.1  Unknown", "HTTP/1.1 \xff\xff\xff Unknown",
	} {
		checkAnswer(t, first+rest, 0, "", 0)
	}
	checkAnswer(t, "HTTP/1.1 299 Unknown"+rest, 299, "{}", len("HTTP/1.1 299 Unknown"+rest))
	for _, length := range []string{"", " ", "a", "-2", "-0", "+2", "02", "00", "2 ", " 2", "2a", "0x2", "2.0", "3", "9223372036854775807", "9223372036854775808", "99999999999999999999999", "18446744073709551618", "2\r"} {
		p := "HTTP/1.1 200 OK\r\nContent-Type: application/json\r\nContent-Length: " + length + "\r\n\r\n{}"
		checkAnswer(t, p, 0, "", 0)
	}
	// Of a body that is there whole the first bytes may be one, too.
	checkAnswer(t, strings.Replace(head, ": 2", ": 0", 1)+"\r\n{}", 200, "", len(head)+2)
	checkAnswer(t, strings.Replace(head, ": 2", ": 1", 1)+"\r\n{}", 200, "{", len(head)+3)
	for _, other := range []string{"content-type: application/json", "Content-Type:application/json", "Content-Type: text/json", "Content-Type: application/json ", "Content-Length: 2", ""} {
		checkAnswer(t, "HTTP/1.1 200 OK\r\n"+other+"\r\nContent-Length: 2\r\n\r\n{}", 0, "", 0)
	}
	checkAnswer(t, "HTTP/1.1 200 OK\r\nContent-Length: 2\r\nContent-Type: application/json\r\n\r\n{}", 0, "", 0)
	checkAnswer(t, "HTTP/1.1 200 OK\r\nContent-Type: application/json\r\n\r\n{}", 0, "", 0)
}

// Memory

// A caller may write over bytes behind the call.
func TestBytesAreNotKept(t *testing.T) {
	over := func(p []byte) {
		for i := range p {
			p[i] = 'X'
		}
	}
	p := []byte(asked("Content-Length: 4") + "body")
	q, n, state := http.Read(unsafe.String(&p[0], len(p)))
	over(p)
	if q != (api.Request{Method: "POST", Path: "/docs", Body: "body"}) || n != len(p) || state != 0 {
		t.Errorf("Read = %s, %d, %d", brief(q), n, state)
	}
	p = []byte("body")
	a, e := http.Write(200, unsafe.String(&p[0], len(p)), false)
	over(p)
	if !strings.HasSuffix(a, "body") || e != api.OK {
		t.Errorf("Write = %q, %d", a, e)
	}
	p = []byte(a)
	s, body, n := http.Answer(unsafe.String(&p[0], len(p)))
	over(p)
	if s != 200 || body != "body" || n != len(p) {
		t.Errorf("Answer = %d, %q, %d", s, body, n)
	}
}
