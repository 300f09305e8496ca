package storable_test

import (
	"math"
	"math/rand"
	"slices"
	"strings"
	"testing"

	"quayside/api"
	"quayside/field"
	"quayside/samples"
	"quayside/storable"
)

const date, later, sooner = samples.Date, samples.Later, samples.Sooner

// of returns the fields with the names and values given in turn.
var of = samples.Fields

// lasting returns the fields of a response with a lifetime, and the other fields.
func lasting(others ...string) field.Fields {
	return of(append([]string{"cache-control", "max-age=5"}, others...)...)
}

var reasonNames = []string{"OK", "Method", "Status", "NoStore", "Private", "Cookie", "Any", "Authorized", "Short"}

// compareOf checks Of against reference_test.go, and P15.2.
func compareOf(t *testing.T, method string, request field.Fields, status int, response field.Fields) {
	t.Helper()
	keptRequest, keptResponse := slices.Clone(request), slices.Clone(response)
	got := storable.Of(method, request, status, response)
	if want := referenceOf(method, request, status, response); got != want {
		t.Errorf("Of(%q, %.300q, %d, %.300q) = %d; want %s", method, request, status, response, got, reasonNames[want])
	}
	if got == storable.OK && isForbidden(request, response) {
		t.Errorf("Of(%q, %.300q, %d, %.300q) is OK", method, request, status, response)
	}
	if !slices.Equal(request, keptRequest) || !slices.Equal(response, keptResponse) {
		t.Errorf("the fields %.300q and %.300q were changed to %.300q and %.300q", keptRequest, keptResponse, request, response)
	}
}

// isForbidden reports whether P15.2 does not permit that the response is stored.
func isForbidden(request, response field.Fields) bool {
	isPermitted := says(response, "public|must-revalidate|s-maxage")
	return says(request, "no-store") || says(response, "no-store|private") ||
		len(referenceValues(response, "set-cookie")) > 0 || referenceAll(referenceValues(response, "vary")) ||
		len(referenceValues(request, "authorization")) > 0 && !isPermitted
}

func TestReasons(t *testing.T) { // P15.1
	reasons := []int{storable.OK, storable.Method, storable.Status, storable.NoStore, storable.Private, storable.Cookie, storable.Any, storable.Authorized, storable.Short}
	if !slices.Equal(reasons, []int{0, 1, 2, 3, 4, 5, 6, 7, 8}) {
		t.Errorf("the reasons are %d", reasons)
	}
}

type ofCase struct {
	method   string
	request  field.Fields
	status   int
	response field.Fields
	want     int
}

func checkOf(t *testing.T, cases []ofCase) {
	t.Helper()
	for _, c := range cases {
		if got := storable.Of(c.method, c.request, c.status, c.response); got != c.want {
			t.Errorf("Of(%q, %.300q, %d, %.300q) = %d; want %s", c.method, c.request, c.status, c.response, got, reasonNames[c.want])
		}
		compareOf(t, c.method, c.request, c.status, c.response)
	}
}

// get returns the case of a GET that was answered with the status 200.
func get(request, response field.Fields, want int) ofCase {
	return ofCase{"GET", request, 200, response, want}
}

func TestExamples(t *testing.T) { // P15.1, P15.2
	secret := of("authorization", "x")
	checkOf(t, []ofCase{
		get(nil, lasting(), storable.OK),
		{"GET", nil, 302, lasting(), storable.OK},
		{"GET", nil, 302, nil, storable.Status},
		get(nil, nil, storable.Short),
		get(nil, of("etag", `"a"`), storable.OK),
		get(secret, lasting(), storable.Authorized),
		get(secret, of("etag", `"a"`), storable.Authorized),
		get(secret, of("cache-control", "max-age=5, public"), storable.OK),
	})
}

func TestMethods(t *testing.T) { // P15.1
	checkOf(t, []ofCase{
		get(nil, lasting(), storable.OK),
		{"", nil, 200, lasting(), storable.Method},
		{"get", nil, 200, lasting(), storable.Method},
		{"Get", nil, 200, lasting(), storable.Method},
		{"GET ", nil, 200, lasting(), storable.Method},
		{" GET", nil, 200, lasting(), storable.Method},
		{"GETS", nil, 200, lasting(), storable.Method},
		{"HEAD", nil, 200, lasting(), storable.Method},
		{"POST", nil, 200, lasting(), storable.Method},
		{"OPTIONS", nil, 200, lasting(), storable.Method},
		{"PURGE", nil, 200, lasting(), storable.Method},
	})
	samples.Edits("GET", func(s string) { compareOf(t, s, nil, 200, lasting()) })
}

func TestStatuses(t *testing.T) { // P15.1
	cacheable := []int{200, 203, 204, 300, 301, 308, 404, 405, 410, 414, 501}
	explicit := []field.Fields{
		lasting(), of("cache-control", "s-maxage=0"), of("cache-control", "max-age"), of("expires", "0"), of("date", date, "expires", later, "etag", `"a"`),
	}
	others := []field.Fields{
		of("etag", `W/"a"`), of("last-modified", sooner), of("date", date, "last-modified", sooner), of("cache-control", "public, must-revalidate, stale-if-error=5", "etag", `"a"`),
	}
	check := func(status int) {
		t.Helper()
		inRange := 200 <= status && status <= 599 && status != 206 && status != 304
		for _, f := range explicit {
			if got := storable.Of("GET", nil, status, f); (got == storable.OK) != inRange || (got == storable.Status) == inRange {
				t.Errorf("Of a %d with %q = %d", status, f, got)
			}
			compareOf(t, "GET", nil, status, f)
		}
		for _, f := range others {
			stored := slices.Contains(cacheable, status)
			if got := storable.Of("GET", nil, status, f); (got == storable.OK) != stored || (got == storable.Status) == stored {
				t.Errorf("Of a %d with %q = %d", status, f, got)
			}
			compareOf(t, "GET", nil, status, f)
		}
	}
	for status := -1000; status < 3000; status++ {
		check(status)
	}
	for _, status := range samples.Around(0, 10200, 1<<8+200, 1<<16+200, 1<<32+200) {
		check(status)
	}
}

func TestNoStore(t *testing.T) { // P15.1, P15.2
	for _, value := range []string{"no-store", "No-Store", "no-store=x", "max-age=5, public,no-store", `x="`, "\x00", "max-age=5\n", "public, \x7f"} {
		for _, name := range []string{"cache-control", "Cache-Control"} {
			checkOf(t, []ofCase{
				get(of(name, value), lasting(), storable.NoStore),
				get(nil, lasting(name, value), storable.NoStore),
				get(of("cache-control", "max-age=5", name, value), lasting(name, value), storable.NoStore),
				get(nil, of(name, value, "etag", `"a"`), storable.NoStore),
			})
		}
	}
	for _, value := range []string{"", "no-stor", "no-stores", "no-cache", `"no-store"`, "x=no-store", `x="no-store"`, "no store", "no-store =x", "max-age=0", "only-if-cached", "private"} {
		checkOf(t, []ofCase{get(of("cache-control", value), lasting(), storable.OK)})
	}
	checkOf(t, []ofCase{
		get(of("pragma", "no-store", "no-store", "no-store", "x", "no-store"), lasting("pragma", "no-store", "no-store", "no-store"), storable.OK),
	})
}

func TestPrivate(t *testing.T) { // P15.1, P15.2
	for _, value := range []string{"private", "PRIVATE", `private="x"`, "private=x", "public, private", "s-maxage=5, must-revalidate, private"} {
		checkOf(t, []ofCase{
			get(nil, lasting("cache-control", value), storable.Private),
			get(of("authorization", "x"), lasting("Cache-Control", value), storable.Private),
			get(of("cache-control", value), lasting(), storable.OK),
		})
	}
	checkOf(t, []ofCase{
		get(nil, lasting("cache-control", "privat", "private", "1"), storable.OK),
		get(nil, of("cache-control", "private, no-store"), storable.NoStore),
		get(of("cache-control", "no-store"), of("cache-control", "private"), storable.NoStore),
	})
}

func TestCookies(t *testing.T) { // P15.1, P15.2
	for _, name := range []string{"set-cookie", "Set-Cookie", "SET-COOKIE"} {
		for _, value := range []string{"a=b", "", "\x00"} {
			checkOf(t, []ofCase{
				get(nil, lasting(name, value), storable.Cookie),
				get(nil, lasting("x", "1", name, value, name, "c=d"), storable.Cookie),
				get(nil, of(name, value, "cache-control", "public, max-age=5, no-cache=\"set-cookie\""), storable.Cookie),
				get(of(name, value), lasting(), storable.OK),
			})
		}
	}
	checkOf(t, []ofCase{
		get(of("cookie", "a=b"), lasting("cookie", "a=b", "set-cookie2", "a=b", "set_cookie", "a=b", "set-cookie ", "a=b"), storable.OK),
	})
	samples.Edits("set-cookie", func(s string) { compareOf(t, "GET", nil, 200, lasting(s, "a=b")) })
}

func TestVary(t *testing.T) { // P15.1, P15.2
	for _, value := range []string{"*", " *\t", "a, *", "*,a", ",*,", "*,*", "a\t,\t*", `"b,c", *`, `"`, `a, "b`, `"a\"`, "\x00", "a,\n*", "a\x7f", "\"\x1f\""} {
		checkOf(t, []ofCase{
			get(nil, lasting("vary", value), storable.Any),
			get(nil, lasting("Vary", value, "x", "1"), storable.Any),
			get(nil, lasting("vary", "a", "VARY", value, "vary", "b"), storable.Any),
			get(of("vary", value), lasting("x-vary", value), storable.OK),
		})
	}
	for _, value := range []string{"", ",", "a", "a, b", "**", "* *", `"*"`, `"a,*"`, "a*", "*a", "x;*", "accept-encoding,accept-language", "a b", "\xff", `\`, `"\"*"`} {
		checkOf(t, []ofCase{get(nil, lasting("vary", value, "vary", value), storable.OK)})
	}
	checkOf(t, []ofCase{
		// Joined by a comma, the quoted part of the first would end in the second.
		get(nil, lasting("vary", `"a`, "vary", `b"`), storable.Any),
		get(nil, lasting("vary", `a, "b, c"`, "vary", "d"), storable.OK),
	})
	samples.Strings(5, []string{"*", ",", " ", `"`, `\`, "a"}, func(s string) { compareOf(t, "GET", nil, 200, lasting("vary", s)) })
	samples.Edits(`a, "*" ,b`, func(s string) { compareOf(t, "GET", nil, 200, lasting("vary", s)) })
	samples.Edits("vary", func(s string) { compareOf(t, "GET", nil, 200, lasting(s, "*")) })
}

func TestAuthorization(t *testing.T) { // P15.1, P15.2
	for _, request := range []field.Fields{of("authorization", "x"), of("Authorization", ""), of("x", "1", "AUTHORIZATION", "a", "authorization", "b")} {
		for _, value := range []string{"public", "must-revalidate", "proxy-revalidate", "s-maxage=0", "s-maxage=5", "s-maxage", "S-MaxAge=x", "Public=x"} {
			checkOf(t, []ofCase{
				get(request, lasting("cache-control", value), storable.OK),
				get(request, of("cache-control", value, "etag", `"a"`), storable.OK),
				get(append(request, of("cache-control", value)...), lasting(), storable.Authorized),
			})
		}
		for _, value := range []string{"", "no-cache", "max-age=9", "publi", "public =x", `"public"`, "stale-if-error=5, stale-while-revalidate=5", "min-fresh=5, max-stale, only-if-cached", "must-revalidat"} {
			checkOf(t, []ofCase{
				get(request, lasting("cache-control", value), storable.Authorized),
				get(request, of("cache-control", value, "etag", `"a"`), storable.Authorized),
			})
		}
		checkOf(t, []ofCase{
			get(request, nil, storable.Authorized),
			get(request, of("expires", later, "date", date, "last-modified", sooner, "public", "1"), storable.Authorized),
			get(request, of("cache-control", "public"), storable.Short),
		})
	}
	checkOf(t, []ofCase{
		get(of("proxy-authorization", "x", "authorisation", "x", "authorization ", "x"), lasting("authorization", "x"), storable.OK),
	})
	samples.Edits("authorization", func(s string) { compareOf(t, "GET", of(s, "x"), 200, lasting()) })
}

func TestShort(t *testing.T) { // P15.1
	for _, status := range []int{200, 203, 204, 300, 301, 308, 404, 405, 410, 414, 501} {
		for _, f := range []field.Fields{
			of("cache-control", "max-age=0"),
			of("cache-control", "max-age"),
			of("cache-control", "s-maxage=0"),
			of("expires", "0"),
			of("date", date, "last-modified", sooner),
			of("last-modified", date),
			of("Last-Modified", date, "date", "x"),
			of("date", sooner, "last-modified", date),
			of("etag", `"a"`),
			of("ETag", `W/"a"`),
			of("etag", `""`),
			of("etag", "\"\x80\xff!\""),
			of("etag", "a", "last-modified", date),
			of("etag", `"a"`, "etag", `"a"`, "last-modified", date),
			of("etag", `"a"`, "last-modified", "x"),
			of("etag", `"a"`, "last-modified", date, "last-modified", date),
			of("cache-control", "no-cache, must-revalidate, max-age=0"),
		} {
			checkOf(t, []ofCase{{"GET", nil, status, f, storable.OK}})
		}
		for _, f := range []field.Fields{
			nil,
			of("date", date),
			of("cache-control", "public"),
			of("cache-control", "no-cache, stale-if-error=5, min-fresh=5"),
			of("etag", ""),
			of("etag", "a"),
			of("etag", "*"),
			of("etag", `w/"a"`),
			of("etag", `W/ "a"`),
			of("etag", ` "a"`),
			of("etag", `"a" `),
			of("etag", `"a`),
			of("etag", `"a b"`),
			of("etag", `"a", "b"`),
			of("etag", `"a"`, "etag", `"a"`),
			of("etag", `"a"`, "ETag", `"b"`),
			of("etag", `"a"`, "etag", ""),
			of("etag", `"a`, "etag", `b"`),
			of("e-tag", `"a"`, "etags", `"a"`),
			of("last-modified", ""),
			of("last-modified", "0"),
			of("last-modified", " "+date),
			of("last-modified", "Mon, 06 Nov 1994 08:49:37 GMT"),
			of("last-modified", "Sunday, 06-Nov-94 08:49:37 GMT"),
			of("last-modified", date, "last-modified", date),
			of("last-modified", date, "Last-Modified", ""),
			of("last-modified", "Sun", "last-modified", date[5:]),
			of("last_modified", date, "if-modified-since", date),
			of("etag", "a", "last-modified", "x"),
			of("etag", `"a"`, "etag", `"a"`, "last-modified", date, "last-modified", date),
		} {
			checkOf(t, []ofCase{
				{"GET", nil, status, f, storable.Short},
				{"GET", of("etag", `"a"`, "last-modified", date, "cache-control", "max-age=5"), status, f, storable.Short},
			})
		}
	}
	samples.Edits(`W/"a"`, func(s string) { compareOf(t, "GET", nil, 200, of("etag", s)) })
	samples.Edits(date, func(s string) { compareOf(t, "GET", nil, 200, of("last-modified", s)) })
	samples.Edits("etag", func(s string) { compareOf(t, "GET", nil, 200, of(s, `"a"`)) })
	samples.Edits("last-modified", func(s string) { compareOf(t, "GET", nil, 200, of(s, date)) })
}

func TestOrderOfReasons(t *testing.T) { // P15.1, P15.2
	samples.Subsets(reasonNames[1:], func(list []string) {
		method, status := "GET", 200
		request, response := of("x", "1"), of("x", "1")
		if !slices.Contains(list, "Short") {
			response = of("etag", `"a"`)
		}
		for _, reason := range list {
			switch reason {
			case "Method":
				method = "HEAD"
			case "Status":
				status = 206
			case "NoStore":
				request = field.Add(request, "cache-control", "no-store")
			case "Private":
				response = field.Add(response, "cache-control", "private")
			case "Cookie":
				response = field.Add(response, "set-cookie", "a=b")
			case "Any":
				response = field.Add(response, "vary", "*")
			case "Authorized":
				request = field.Add(request, "authorization", "x")
			}
		}
		want := storable.OK
		if len(list) > 0 {
			want = slices.Index(reasonNames, list[0])
		}
		checkOf(t, []ofCase{{method, request, status, response, want}})
	})
}

func TestPass(t *testing.T) { // P15.1
	check := func(reason int) {
		want := slices.Contains([]int{storable.NoStore, storable.Private, storable.Cookie, storable.Any, storable.Authorized}, reason)
		if got := storable.Pass(reason); got != want {
			t.Errorf("Pass(%d) = %t", reason, got)
		}
	}
	for reason := -1000; reason < 1000; reason++ {
		check(reason)
	}
	for _, reason := range samples.Around(0, 1<<8+3, 1<<16+3, 1<<32+3) {
		check(reason)
	}
}

// responseFields are fields of a response that matter, and some that do not.
var responseFields = []string{
	"cache-control:max-age=5", "Cache-Control:no-store", "cache-control:private=\"x\"", "cache-control:public", "cache-control:s-maxage=0", "cache-control:proxy-revalidate", "cache-control:no-cache", "cache-control:x=\"",
	"set-cookie:a=b", "vary:*", "vary:a", "Vary:\"*\"", "vary:a, *", "vary:\"", "etag:\"a\"", "ETag:W/\"b\"", "etag:a",
	"last-modified:" + sooner, "Last-Modified:x", "date:" + date, "expires:0", "Expires:" + later, "x:*",
}

var requestFields = []string{"authorization:x", "Authorization:", "cache-control:no-store", "cache-control:public, s-maxage=5, private", "vary:*", "set-cookie:a", "x:y"}

// fieldOf returns the field with the name before the colon of the text, and the
// value behind it.
func fieldOf(text string) field.Field {
	name, value, _ := strings.Cut(text, ":")
	return field.Field{Name: name, Value: value}
}

// lists calls use with every list of at most n of the fields.
func lists(n int, texts []string, use func(f field.Fields)) {
	var from field.Fields
	for _, text := range texts {
		from = append(from, fieldOf(text))
	}
	samples.Lists(n, from, use)
}

func TestFieldsInAnyOrder(t *testing.T) { // P15.1, P15.2
	lists(2, responseFields, func(response field.Fields) {
		lists(1, requestFields, func(request field.Fields) {
			for _, status := range []int{200, 404, 302, 304} {
				compareOf(t, "GET", request, status, response)
			}
		})
	})
}

// randomList returns some of the fields, of which some have another case, and
// some others.
func randomList(random *rand.Rand, texts ...string) field.Fields {
	var f field.Fields
	for range random.Intn(6) {
		text := samples.Some(random, texts...)
		switch random.Intn(12) {
		case 0:
			text = strings.ToUpper(text)
		case 1:
			text = samples.Spoil(random, text, ":", `"`, "*", ",", " ", "a", "\xff")
		}
		f = append(f, fieldOf(text))
	}
	return f
}

func TestRandomResponses(t *testing.T) { // P15.1, P15.2
	random := rand.New(rand.NewSource(1))
	for range 40000 {
		method := samples.Some(random, "GET", "GET", "GET", "GET", "GET", "GET", "GET", "HEAD", "POST", "get", "")
		status := []int{200, 200, 200, 404, 301, 302, 304, 206, 100, 500, 600}[random.Intn(11)]
		compareOf(t, method, randomList(random, requestFields...), status, randomList(random, responseFields...))
	}
}

// compareUpdate checks Update against reference_test.go, and P15.3.
func compareUpdate(t *testing.T, stored, fresh field.Fields) {
	t.Helper()
	keptStored, keptFresh := slices.Clone(stored), slices.Clone(fresh)
	updated, err := storable.Update(stored, fresh)
	if want, wantErr := referenceUpdate(stored, fresh); err != wantErr || !slices.Equal(updated, want) {
		t.Errorf("Update(%.300q, %.300q) = %.300q, %v; want %.300q, %v", stored, fresh, updated, err, want, wantErr)
	}
	if !slices.Equal(stored, keptStored) || !slices.Equal(fresh, keptFresh) {
		t.Errorf("the fields %.300q and %.300q were changed to %.300q and %.300q", keptStored, keptFresh, stored, fresh)
	}
	if err == nil {
		loseLittle(t, stored, fresh, updated)
		updateAgain(t, fresh, updated)
	}
}

// loseLittle checks that only fields whose name the 304 has are lost.
func loseLittle(t *testing.T, stored, fresh, updated field.Fields) {
	t.Helper()
	for _, x := range stored {
		name := lower.Replace(x.Name)
		isKept := slices.Equal(referenceValues(updated, name), referenceValues(stored, name))
		if !isKept && len(referenceValues(fresh, name)) == 0 {
			t.Errorf("Update(%.300q, %.300q) = %.300q: %q is lost", stored, fresh, updated, x)
		}
	}
}

// updateAgain checks that the same 304 changes nothing once more.
func updateAgain(t *testing.T, fresh, updated field.Fields) {
	t.Helper()
	again, err := storable.Update(updated, fresh)
	if err != nil || !slices.Equal(again, updated) {
		t.Errorf("Update(%.300q, %.300q) = %.300q, %v", updated, fresh, again, err)
	}
}

type updateCase struct {
	stored, fresh, want field.Fields
}

func checkUpdates(t *testing.T, cases []updateCase) {
	t.Helper()
	for _, c := range cases {
		got, err := storable.Update(c.stored, c.fresh)
		if err != nil || !slices.Equal(got, c.want) {
			t.Errorf("Update(%.300q, %.300q) = %.300q, %v; want %.300q", c.stored, c.fresh, got, err, c.want)
		}
		compareUpdate(t, c.stored, c.fresh)
	}
}

func TestUpdate(t *testing.T) { // P15.1, P15.3
	stored := of("etag", `"a"`, "x", "1", "content-length", "5")
	checkUpdates(t, []updateCase{
		{stored, of("x", "2", "content-length", "0", "connection", "close"), of("etag", `"a"`, "content-length", "5", "x", "2")},
		{stored, of("etag", `W/"a"`), of("x", "1", "content-length", "5", "etag", `W/"a"`)},
		{stored, of("etag", `"a"`), of("x", "1", "content-length", "5", "etag", `"a"`)},
		{stored, nil, stored},
		{nil, stored, of("etag", `"a"`, "x", "1")},
		{nil, nil, nil},
		{of("a", "1", "b", "2", "A", "3", "c", "4"), of("a", "5"), of("b", "2", "c", "4", "a", "5")},
		{of("a", "1", "b", "2"), of("A", "3", "a", "4", "c", "5", "A", "3"), of("b", "2", "A", "3", "a", "4", "c", "5", "A", "3")},
		{of("A", "1", "a", "2", "B", "3"), of("b", ""), of("A", "1", "a", "2", "b", "")},
		{of("a", "1", "a", "1"), of("b", "1", "b", "1"), of("a", "1", "a", "1", "b", "1", "b", "1")},
		{of("a ", "1", "", "2", "\xff", "3"), of("a", "4", "\xfe", "5"), of("a ", "1", "", "2", "\xff", "3", "a", "4", "\xfe", "5")},
		{of("", "1", "\xff", "2"), of("", "3", "\xff", "4"), of("", "3", "\xff", "4")},
	})
}

func TestUpdateKeepsWhatTellsOfTheBody(t *testing.T) { // P15.1, P15.3
	body := of("content-length", "5", "content-encoding", "x", "content-range", "bytes 0-4/9")
	changed := of("Content-Length", "0", "CONTENT-ENCODING", "y", "Content-Range", "bytes */5", "content-type", "z", "content-language", "de")
	checkUpdates(t, []updateCase{
		{body, changed, append(slices.Clone(body), of("content-type", "z", "content-language", "de")...)},
		{nil, body, nil},
		{body, body, body},
		{of("content-lengths", "1", "content", "2", "content-rang", "3"), of("content-lengths", "4", "content", "5", "content-rang", "6"), of("content-lengths", "4", "content", "5", "content-rang", "6")},
	})
	for _, x := range body {
		samples.Edits(x.Name, func(s string) { compareUpdate(t, body, of(s, "9")) })
	}
}

func TestUpdateLeavesOutWhatConcernsAConnection(t *testing.T) { // P15.1, P15.3
	for _, name := range []string{"connection", "keep-alive", "proxy-connection", "proxy-authenticate", "proxy-authorization", "te", "trailer", "transfer-encoding", "upgrade", "X-A", "x-b"} {
		checkUpdates(t, []updateCase{
			{of(name, "1", "y", "2"), of(name, "3", "connection", "x-a, X-B", "y", "4"), of(name, "1", "y", "4")},
			{of("y", "2"), of("Connection", "x-a", "y", "4", strings.ToUpper(name), "3", "connection", "X-b"), of("y", "4")},
			{of("connection", "y", name, "1", "y", "2"), of("x", "3"), of("connection", "y", name, "1", "y", "2", "x", "3")},
		})
	}
	checkUpdates(t, []updateCase{
		{of("x-a", "1"), of("connection", `x-a, "`, "x-a", "2"), of("x-a", "2")},
		{of("etag", `"a"`), of("connection", "etag", "etag", `W/"a"`), of("etag", `"a"`)},
		{of("x", "1"), of("connection", "etag", "etag", `W/"a"`), of("x", "1")},
	})
}

func TestTagsOfUpdates(t *testing.T) { // P15.1, P15.3
	for _, c := range []struct {
		stored, fresh []string
		mixed         bool
	}{
		{nil, nil, false},
		{nil, []string{`"a"`}, false},
		{nil, []string{`"a"`, `"b"`}, false},
		{nil, []string{"a"}, false},
		{[]string{`"a"`}, nil, false},
		{[]string{`"a"`, `"b"`}, nil, false},
		{[]string{"a"}, nil, false},
		{[]string{`"a"`}, []string{`"a"`}, false},
		{[]string{`W/"a"`}, []string{`W/"a"`}, false},
		{[]string{`"a"`}, []string{`W/"a"`}, false},
		{[]string{`W/"a"`}, []string{`"a"`}, false},
		{[]string{`""`}, []string{`W/""`}, false},
		{[]string{`"a"`}, []string{`"b"`}, true},
		{[]string{`"a"`}, []string{`"A"`}, true},
		{[]string{`"a"`}, []string{`W/"b"`}, true},
		{[]string{`W/"a"`}, []string{`W/"b"`}, true},
		{[]string{`"a"`}, []string{`""`}, true},
		{[]string{`"a"`}, []string{"a"}, true},
		{[]string{`"a"`}, []string{""}, true},
		{[]string{`"a"`}, []string{` "a"`}, true},
		{[]string{`"a"`}, []string{`w/"a"`}, true},
		{[]string{`""`}, []string{""}, true},
		{[]string{""}, []string{`""`}, true},
		{[]string{""}, []string{"x"}, true},
		{[]string{"a"}, []string{"b"}, true},
		{[]string{"a"}, []string{"a"}, false},
		{[]string{""}, []string{""}, false},
		{[]string{`"a"`}, []string{`"a"`, `"a"`}, true},
		{[]string{`"a"`, `"a"`}, []string{`"a"`}, true},
		{[]string{`"a"`, `"a"`}, []string{`"a"`, `"a"`}, false},
		{[]string{`"a"`, `"b"`}, []string{`"a"`, `"b"`}, false},
		{[]string{`"a"`, `"b"`}, []string{`"b"`, `"a"`}, true},
		{[]string{`"a"`, `"a"`}, []string{`"a"`, `W/"a"`}, true},
		{[]string{`"a"`, `"b"`}, []string{`"a", "b"`}, true},
		{[]string{`"a", "b"`}, []string{`"a", "b"`}, false},
		{[]string{`"a`, `b"`}, []string{`"a, b"`}, true},
	} {
		stored, fresh := of("x", "1"), of("y", "2", "content-length", "0")
		for i, value := range c.stored {
			stored = append(stored, of([]string{"etag", "ETag"}[i], value)...)
		}
		for i, value := range c.fresh {
			fresh = append(fresh, of([]string{"Etag", "etag"}[i], value)...)
		}
		got, err := storable.Update(stored, fresh)
		if c.mixed && (err != api.ErrMixed || len(got) != 0) || !c.mixed && err != nil {
			t.Errorf("Update(%q, %q) = %q, %v", stored, fresh, got, err)
		}
		compareUpdate(t, stored, fresh)
	}
	samples.Edits(`W/"a"`, func(s string) {
		compareUpdate(t, of("etag", `"a"`), of("etag", s))
		compareUpdate(t, of("etag", s), of("etag", `"a"`))
		compareUpdate(t, of("etag", s), of("etag", s))
	})
	samples.Edits("etag", func(s string) {
		compareUpdate(t, of("etag", `"a"`), of(s, `"b"`))
		compareUpdate(t, of(s, `"a"`), of("etag", `"b"`))
	})
}

func TestTagsOfTheConnectionCountAsTags(t *testing.T) { // P15.1
	// The 304 has an etag, whether or not it replaces the stored one.
	_, err := storable.Update(of("etag", `"a"`), of("connection", "etag", "etag", `"b"`))
	if err != api.ErrMixed {
		t.Errorf("the error is %v", err)
	}
}

// storedFields and freshFields are for updates.
var (
	storedFields = []string{"etag:\"a\"", "ETag:W/\"a\"", "etag:\"b\"", "etag:a", "x:1", "X:2", "y:3", "content-length:5", "Connection:y", "te:t", ":"}
	freshFields  = []string{"etag:\"a\"", "Etag:W/\"a\"", "etag:\"b\"", "etag:a", "x:4", "X:5", "Y:6", "Content-Length:0", "content-range:r", "connection:x, Etag", "connection:\"", "TE:u", ":"}
)

func TestUpdatesOfAnyFields(t *testing.T) { // P15.1, P15.3
	lists(2, storedFields, func(stored field.Fields) {
		lists(2, freshFields, func(fresh field.Fields) { compareUpdate(t, stored, fresh) })
	})
	random := rand.New(rand.NewSource(2))
	for range 40000 {
		compareUpdate(t, randomList(random, storedFields...), randomList(random, freshFields...))
	}
}

func TestUpdateSharesNoMemory(t *testing.T) { // P15.1
	stored, fresh := of("a", "1", "b", "2", "c", "3"), of("d", "4", "e", "5")
	for _, c := range []struct{ stored, fresh field.Fields }{
		{stored, fresh}, {stored, nil}, {nil, fresh}, {stored[:1:3], fresh}, {stored[:0], fresh[:1]}, {stored, of("b", "9")},
	} {
		got, err := storable.Update(c.stored, c.fresh)
		if err != nil {
			t.Fatal(err)
		}
		got = append(got, of("x", "y")...)
		for i := range got {
			got[i] = field.Field{}
		}
		if !slices.Equal(stored, of("a", "1", "b", "2", "c", "3")) || !slices.Equal(fresh, of("d", "4", "e", "5")) {
			t.Fatalf("the arguments %q and %q share memory with a result", stored, fresh)
		}
	}
}

func FuzzResponses(f *testing.F) { // P15.1, P15.2
	f.Add("GET", 200, "authorization", "x", "max-age=5", "etag", `"a"`, "vary", "a, *")
	f.Add("GET", 302, "cache-control", "no-store", "public", "last-modified", date, "set-cookie", "a=b")
	f.Add("GET", 404, "Authorization", "", "proxy-revalidate", "Last-Modified", date, "date", date)
	f.Fuzz(func(t *testing.T, method string, status int, asked, value, control, name, text, other, more string) {
		request := of(asked, value)
		compareOf(t, method, request, status, of("cache-control", control, name, text, other, more))
		compareOf(t, "GET", request, status, of(name, text, other, more))
		compareOf(t, "GET", nil, 200, lasting("vary", text, name, more))
		compareOf(t, "GET", nil, 200, of("etag", text))
		compareOf(t, "GET", nil, 200, of("last-modified", text))
	})
}

func FuzzUpdates(f *testing.F) { // P15.1, P15.3
	f.Add("etag", `"a"`, "x", "1", "x", "2", "content-length", "0", "close")
	f.Add("etag", `"a"`, "X", "1", "ETag", `W/"a"`, "y", "2", "y, etag")
	f.Add("content-range", "", "y", "1", "Content-Range", "b", "Y", "2", `"`)
	f.Fuzz(func(t *testing.T, a, av, b, bv, c, cv, d, dv, connection string) {
		compareUpdate(t, of(a, av, b, bv), of(c, cv, d, dv))
		compareUpdate(t, of(a, av, b, bv, a, av), of(c, cv, "connection", connection, d, dv, c, dv))
		compareUpdate(t, of("etag", av), of("etag", cv))
		compareUpdate(t, of("etag", av, "etag", bv), of("etag", cv, "etag", dv))
	})
}

func TestLongInputs(t *testing.T) { // P1
	const n = 1 << 17
	var many field.Fields
	for range n {
		many = append(many, of("x", "1", "cache-control", "max-age=9", "vary", "a")...)
	}
	for _, c := range []ofCase{
		get(many, append(lasting("etag", `"a"`), many...), storable.OK),
		get(many, append(lasting("vary", "*"), many...), storable.Any),
		get(many, lasting("vary", strings.Repeat("a,", n)+"*"), storable.Any),
		get(nil, lasting("vary", strings.Repeat(`"`, n)), storable.OK),
		get(nil, lasting("vary", strings.Repeat(`"`, n+1)), storable.Any),
		get(nil, of("etag", `"`+strings.Repeat("a", n)+`"`), storable.OK),
		get(nil, of("last-modified", strings.Repeat(date, n)), storable.Short),
		{strings.Repeat("GET", n), nil, math.MinInt, nil, storable.Method},
		{"GET", nil, math.MinInt, many, storable.Status},
	} {
		if got := storable.Of(c.method, c.request, c.status, c.response); got != c.want {
			t.Errorf("Of %.9q.. = %d; want %s", c.method, got, reasonNames[c.want])
		}
	}
	var names field.Fields
	for i := range n {
		names = append(names, field.Field{Name: strings.Repeat("a", i%99) + string(rune(256+i)), Value: "1"})
	}
	got, err := storable.Update(append(slices.Clone(many), names...), append(slices.Clone(names), of("x", "2")...))
	if want := 2*n + n + 1; err != nil || len(got) != want {
		t.Errorf("Update has %d fields, %v; want %d", len(got), err, want)
	}
	updateAgain(t, append(slices.Clone(names), of("x", "2")...), got)
}
