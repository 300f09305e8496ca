package conn_test

import (
	"fmt"
	"regexp"
	"strings"

	"quayside/api"
	"quayside/chunked"
	"quayside/conn"
	"quayside/framing"
	"quayside/head"
)

// The functions of this file say the same as chapter 8 in another way, by
// looking at all the bytes or events at once, so that the tests can compare
// the package with them. They need not be fast.

// side tells what arrives on a connection.
type side struct {
	responses bool
	methods   []string
}

// outcome is what comes of all bytes that are written to a connection, and of
// a Close after them.
type outcome struct {
	events  []conn.Event
	err     error
	last    []conn.Event
	lastErr error
}

func (o outcome) String() string {
	return fmt.Sprintf("%s, %v, then %s, %v", show(o.events), o.err, show(o.last), o.lastErr)
}

func same(a, b outcome) bool {
	return a.String() == b.String()
}

// escaper makes data differ from what stands between events.
var escaper = strings.NewReplacer(";", `\;`, `\`, `\\`)

// show returns what the events say as text, with adjacent Data joined.
func show(list []conn.Event) string {
	var text strings.Builder
	for i, e := range list {
		switch {
		case e.Kind == conn.Data && i > 0 && list[i-1].Kind == conn.Data:
			text.WriteString(escaper.Replace(string(e.Data)))
		case e.Kind == conn.Data:
			text.WriteString("; Data " + escaper.Replace(string(e.Data)))
		case e.Kind == conn.End:
			fmt.Fprintf(&text, "; End %q", e.Trailers)
		default:
			fmt.Fprintf(&text, "; Head %q %d %q", e.Request, e.Response.Status, e.Response.Fields)
		}
	}
	return text.String()
}

// referenceRead returns what comes of the bytes s.
func referenceRead(p side, s string) outcome {
	var o outcome
	for heads, ended := 0, 0; s != ""; heads++ {
		if p.responses && ended >= len(p.methods) {
			return outcome{o.events, api.ErrState, nil, api.ErrState}
		}
		method := ""
		if p.responses {
			method = p.methods[ended]
		}
		e, n, frame, err := referenceHead(p, method, heads, s)
		if err == api.ErrEnd {
			return outcome{o.events, nil, nil, err}
		}
		if err != nil {
			return outcome{o.events, err, nil, err}
		}
		o.events = append(o.events, e)
		s = s[n:]
		if isInterim(e) {
			continue
		}
		n, o = referenceBody(o, frame, s)
		if o.lastErr != nil || o.last != nil {
			return o
		}
		s = s[n:]
		ended++
	}
	return o
}

// referenceHead returns the head at the beginning of s, its length, and the
// frame of its message.
func referenceHead(p side, method string, heads int, s string) (e conn.Event, n int, frame framing.Frame, err error) {
	e.Kind = 1
	b := []byte(s)
	for i := range b {
		var err2 error
		if p.responses {
			e.Response, n, err = head.ReadResponse(b[:i+1])
			frame, err2 = framing.OfResponse(method, e.Response)
		} else {
			e.Request, n, err = head.ReadRequest(b[:i+1])
			frame, err2 = framing.OfRequest(e.Request)
		}
		switch {
		case err == api.ErrEnd:
			continue
		case err == nil && heads >= 64:
			err = api.ErrLarge
		case err == nil:
			err = err2
		}
		break
	}
	return e, n, frame, err
}

var interimStatus = regexp.MustCompile(`\A1..\z`)

// isInterim reports whether a Head has no End.
func isInterim(e conn.Event) bool {
	return e.Request.Method == "" && interimStatus.MatchString(fmt.Sprint(e.Response.Status))
}

// referenceBody returns how many bytes of s belong to a body, and what comes
// of them, after o.
func referenceBody(o outcome, frame framing.Frame, s string) (int, outcome) {
	end := conn.Event{Kind: 3}
	n, data := 0, ""
	switch frame.Kind {
	case framing.Length:
		n = min(len(s), frame.Length)
		data = s[:n]
		if n < frame.Length {
			o.lastErr = api.ErrEnd
		}
	case framing.Chunked:
		d := chunked.New()
		b, taken, err := d.Write([]byte(s))
		n, data, end.Trailers, o.err = taken, string(b), d.Trailers(), err
		if err != nil {
			o.lastErr = err
		} else if !d.Done() {
			o.lastErr = api.ErrEnd
		}
	case framing.Close:
		n, data = len(s), s
		o.last = []conn.Event{end}
	}
	if data != "" {
		o.events = append(o.events, conn.Event{Kind: 2, Data: []byte(data)})
	}
	if o.lastErr == nil && o.last == nil {
		o.events = append(o.events, end)
	}
	return n, o
}

func referenceFormat(list []conn.Event) (string, error) {
	text := ""
	for i, e := range list {
		part, err := referencePart(list[:i], e)
		if err != nil {
			return "", err
		}
		text += part
	}
	return text, nil
}

// referencePart returns the bytes of e after the events before it.
func referencePart(before []conn.Event, e conn.Event) (string, error) {
	frame, written, lasts := referencePlace(before)
	switch e.Kind {
	case 1:
		b, err := referenceStart(e)
		if err == nil && (frame.Kind != 0 || lasts) {
			return "", api.ErrState
		}
		return string(b), err
	case 2:
		if frame.Kind == 0 || frame.Kind == framing.None && len(e.Data) > 0 {
			return "", api.ErrState
		}
		if frame.Kind == framing.Length && written+len(e.Data) > frame.Length {
			return "", api.ErrLength
		}
		if frame.Kind == framing.Chunked {
			return string(chunked.Chunk(e.Data)), nil
		}
		return string(e.Data), nil
	case 3:
		if frame.Kind == framing.Chunked {
			b, err := chunked.Last(e.Trailers)
			return string(b), err
		}
		if frame.Kind == 0 {
			return "", api.ErrState
		}
		if frame.Kind == framing.Length && written < frame.Length {
			return "", api.ErrLength
		}
		if len(e.Trailers) > 0 {
			return "", api.ErrTrailer
		}
		return "", nil
	}
	return "", api.ErrState
}

// referencePlace returns the frame of the message in which the next event
// stands, and how much of its data was written; outside of one, whether a
// message with the frame Close has ended.
func referencePlace(before []conn.Event) (frame framing.Frame, written int, lasts bool) {
	at, lastFrame := -1, framing.Frame{}
	for i, e := range before {
		if e.Kind == 1 && !isInterim(e) {
			at, written = i, 0
			lastFrame = referenceFrame(e)
		}
		if e.Kind == 2 {
			written += len(e.Data)
		}
		if e.Kind == 3 {
			at = -1
		}
	}
	if at < 0 {
		return framing.Frame{}, 0, lastFrame.Kind == framing.Close
	}
	return lastFrame, written, false
}

func referenceFrame(e conn.Event) framing.Frame {
	if e.Request.Method != "" {
		frame, _ := framing.OfRequest(e.Request)
		return frame
	}
	frame, _ := framing.OfResponse("GET", e.Response)
	return frame
}

func referenceStart(e conn.Event) ([]byte, error) {
	if e.Request.Method != "" {
		b, err := head.WriteRequest(e.Request)
		_, err2 := framing.OfRequest(e.Request)
		if err == nil && err2 != nil {
			return nil, err2
		}
		return b, err
	}
	b, err := head.WriteResponse(e.Response)
	_, err2 := framing.OfResponse("GET", e.Response)
	if err == nil && err2 != nil {
		return nil, err2
	}
	return b, err
}
