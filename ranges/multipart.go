package ranges

import (
	"bytes"
	"slices"
	"strings"

	"quayside/api"
	"quayside/ascii"
	"quayside/field"
)

const (
	lineEnd     = "\r\n"
	dashes      = "--"
	kindStart   = "Content-Type: "
	extentStart = "Content-Range: "
)

// maxBoundary is the greatest length of a boundary.
const maxBoundary = 40

// Part is a range of a body, with its bytes.
type Part struct {
	Range Range
	Data  []byte
}

// partHead is what stands before the bytes of a part.
type partHead struct {
	kind   string
	extent Range
	length int // that of the whole body
}

// Multipart returns a multipart/byteranges body with the ranges of the list.
func Multipart(boundary, kind string, list []Range, body []byte) ([]byte, error) {
	if !isBoundary(boundary) || bytes.Contains(body, []byte(boundary)) || !isKind(kind) {
		return nil, api.ErrForm
	}
	if len(list) == 0 {
		return nil, api.ErrRange
	}
	var b []byte
	for _, r := range list {
		extent, err := ContentRange(r, len(body))
		if err != nil {
			return nil, api.ErrRange
		}
		lines := []string{dashes + boundary, kindStart + kind, extentStart + extent, "", ""}
		b = append(b, strings.Join(lines, lineEnd)...)
		b = append(b, body[r.From:r.To]...)
		b = append(b, lineEnd...)
	}
	return append(b, lastLine(boundary)...), nil
}

// ReadMultipart returns the parts of what Multipart wrote, and the length of
// the body that they are of.
func ReadMultipart(boundary string, b []byte) ([]Part, int, error) {
	if !isBoundary(boundary) {
		return nil, 0, api.ErrForm
	}
	end := lastLine(boundary)
	var list []Part
	var first partHead
	for string(b) != end {
		head, rest, err := readHead(boundary, b)
		if err != nil {
			return nil, 0, err
		}
		if len(list) == 0 {
			first = head
		}
		if head.kind != first.kind || head.length != first.length {
			return nil, 0, api.ErrForm
		}
		data, rest, err := readData(boundary, head.extent.To-head.extent.From, rest)
		if err != nil {
			return nil, 0, err
		}
		list = append(list, Part{Range: head.extent, Data: data})
		b = rest
	}
	if len(list) == 0 {
		return nil, 0, api.ErrForm
	}
	return list, first.length, nil
}

// readHead reads the lines before the bytes of a part, and returns what
// follows them.
func readHead(boundary string, b []byte) (partHead, []byte, error) {
	// Four lines, and the rest of b.
	parts := bytes.SplitN(b, []byte(lineEnd), 5)
	if len(parts) < 5 || string(parts[0]) != dashes+boundary || len(parts[3]) > 0 {
		return partHead{}, nil, api.ErrForm
	}
	kind, hasKind := strings.CutPrefix(string(parts[1]), kindStart)
	extent, hasExtent := strings.CutPrefix(string(parts[2]), extentStart)
	if !hasKind || !hasExtent || !isKind(kind) {
		return partHead{}, nil, api.ErrForm
	}
	r, length, err := ReadContentRange(extent)
	if err != nil {
		return partHead{}, nil, err
	}
	return partHead{kind: kind, extent: r, length: length}, parts[4], nil
}

// readData reads the n bytes of a part and the line end after them, and returns
// what follows.
func readData(boundary string, n int, b []byte) (data, rest []byte, err error) {
	if n > len(b) || bytes.Contains(b[:n], []byte(boundary)) {
		return nil, nil, api.ErrForm
	}
	rest, found := bytes.CutPrefix(b[n:], []byte(lineEnd))
	if !found {
		return nil, nil, api.ErrForm
	}
	return slices.Clone(b[:n]), rest, nil
}

// lastLine returns the line that ends a multipart body.
func lastLine(boundary string) string {
	return dashes + boundary + dashes + lineEnd
}

// isBoundary reports whether s may be a boundary.
func isBoundary(s string) bool {
	if s == "" || len(s) > maxBoundary {
		return false
	}
	for i := 0; i < len(s); i++ {
		if !ascii.IsAlphanumeric(s[i]) {
			return false
		}
	}
	return true
}

// isKind reports whether s is a canonical value.
func isKind(s string) bool {
	value, err := field.Value(s)
	return err == nil && value == s
}
