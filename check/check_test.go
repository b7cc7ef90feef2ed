package check_test

import (
	"reflect"
	"strings"
	"testing"

	"paling/api"
	"paling/check"
	"paling/prog"
)

// has is a text with a thing of each kind, that tests by hand put ahead of theirs: small letters are public, n numbers, t truths, a with places.
const has = "lock m; lock k; public int n; secret int N; public bool t; secret bool T; " +
	"public int an[4]; secret int aN[4]; public bool at[4]; secret bool aT[4]; " +
	"public int gm by m; public int am[4] by m; public bool gk by k; secret int Nk[2] by k; " +
	"func one() public int { return 1; } func mix(secret int x, public bool y) secret int { return x; } "

// cut is a text without the sign that tells where its error is, and that place.
func cut(text string) (string, int) {
	at := strings.IndexByte(text, '@')
	return strings.Replace(text, "@", "", 1), at
}

// wrong holds Text and Program against an error, at the sign of each text.
func wrong(t *testing.T, want api.Errno, texts ...string) {
	t.Helper()
	for _, marked := range texts {
		text, where := cut(marked)
		if where < 0 {
			t.Fatalf("%q: no sign", marked)
		}
		if p, bad, at := check.Text(text); bad != want || at != where || !reflect.DeepEqual(p, api.Program{}) {
			t.Errorf("%q: %v at %d", marked, bad, at)
		}
		p, bad, _ := prog.Parse(text)
		if bad != api.OK {
			t.Errorf("%q: no program: %v", marked, bad)
		}
		if bad, at := check.Program(p); bad != want || at != where {
			t.Errorf("%q: Program: %v at %d", marked, bad, at)
		}
		if l := check.Uses(p); len(l) != 0 {
			t.Errorf("%q: Uses: %v", marked, l)
		}
	}
}

// wrongIn is wrong, of texts behind one with a thing of each kind.
func wrongIn(t *testing.T, want api.Errno, texts ...string) {
	t.Helper()
	for _, text := range texts {
		wrong(t, want, has+text)
	}
}

// fine holds Text and Program of texts against none.
func fine(t *testing.T, texts ...string) {
	t.Helper()
	for _, text := range texts {
		p, bad, at := check.Text(text)
		if bad != api.OK || at != 0 {
			t.Errorf("%q: %v at %d", text, bad, at)
			continue
		}
		if want, _, _ := prog.Parse(text); !reflect.DeepEqual(p, want) {
			t.Errorf("%q: %+v", text, p)
		}
		if bad, at := check.Program(p); bad != api.OK || at != 0 {
			t.Errorf("%q: Program: %v at %d", text, bad, at)
		}
	}
}

// fineIn is fine, of texts behind one with a thing of each kind.
func fineIn(t *testing.T, texts ...string) {
	t.Helper()
	for _, text := range texts {
		fine(t, has+text)
	}
}

// The document's examples.
func TestDocument(t *testing.T) {
	fine(t, `
lock m;
public int n;
public int tab[5] by m;
secret int key[4];
func mix(secret int a, public int b) secret int {
	var secret int t = a ^ b;
	return t * 3;
}
thread {
	var public int i = 0;
	while (i < 4) {
		key[i] = mix(key[i], i);
		i = i + 1;
	}
	lock m {
		tab[n] = i;
	}
	out n;
}
`, "thread { out 2 * 3; }", "thread { out 1 / 0; }")
	wrong(t, api.ErrLabel, "secret int k; thread { out @k; }")
	wrong(t, api.ErrGuard, "public int @n; thread { n = 1; } thread { out n; }", "lock m; thread { lock m { @lock m { } } }")
}

// P8.1: things that may be.
func TestFineThings(t *testing.T) {
	fine(t, "", " // nothing\n", "thread { }", "thread { } thread { } thread { } thread { }", "lock m;",
		"public int g by m; lock m;", "secret bool g[64] by m; thread { } lock m;",
		"func f() public int { return 1; }",
		"func f() secret int { return 1; }", "func f() secret bool { return true; }",
		"func f(secret int a, public int b) secret int { return a + b; }",
		"func f(public int a) public int { a = a + 1; return a; } func g(secret bool a) secret bool { a = !a; return a; }",
		"func f() public int { return 1; } func g() public int { return f() + f(); } func h() public int { var public int x = g() / f(); return x; }",
		"thread { out f(g(1)); } func g(public int a) public int { return a; } func f(public int a) public int { return g(a); }",
		"func f(public int a, public bool b) public int { if (b) { var public int c = a; a = c; } else { var public bool c = b; b = !c; } while (a < 9) { a = a + 1; } return a; }",
		"func f(public int a) public int { return a; } func g(public bool a) public bool { return a; } thread { var public int a = 1; out a; } thread { var public bool a = true; out a; }")
}

// P8.1: names that there are twice, and guards that are no locks.
func TestWrongThings(t *testing.T) {
	wrong(t, api.ErrName,
		"public int a; public int @a;", "lock a; lock @a;", "public int a; lock @a;",
		"lock a; func @a() public int { return 1; }", "func f() public int { return 1; } func @f() public int { return 1; }",
		"func f() public int { return 1; } public int @f by m;",
		"public int @g by m;", "public int @g[4] by m;", "public int @g by g;", "public int h; public int @g by h;", "secret int @g by f; func f() public int { return 1; }",
		"lock m; public int a by m; public int @b by k; public int c by k;",
		"lock k; public bool @b by m; thread { }")
}

// P8.1: params, and what functions come to.
func TestWrongFunctions(t *testing.T) {
	wrongIn(t, api.ErrName,
		"func @f(public int a, public int a) public int { return 1; }", "func @f(public int a, public int b, secret bool a) public int { return 1; }",
		"func @f(public int f) public int { return 1; }", "func @f(public int n) public int { return 1; }", "func @f(public int am) public int { return 1; }",
		"func @f(public int m) public int { return 1; }", "func @f(public int one) public int { return 1; }", "func @f(public int late) public int { return 1; } func late() public int { return 1; }",
		"func f(public int a) public int { @var public int a = 1; return 1; }",
		"func f(public int a) public int { if (true) { @var public int a = 1; } return 1; }",
		"func f() public int { if (true) { var public int a = 1; } return @a; }",
		"func f(public int a) public int { return a; } func h() public int { return @a; }",
		"func f() public int { var public int a = 1; return a; } thread { out @a; }",
		"func f() public int { return 1 + @u; }")
	wrongIn(t, api.ErrType,
		"func f() public bool { return @1; }", "func f() public int { return @true; }", "func f(secret bool a) public int { return @a; }",
		"func f(public int a) public int { return @a < 1; }", "func f(public int a) public int { return a + @true; }", "func f() public int { return @m; }", "func f() public int { return @one; }")
	wrongIn(t, api.ErrLabel,
		"func f(secret int a) public int { return @a; }", "func f(secret int a) public bool { return @1 < a; }", "func f(secret int a) public int { return 1 / (@a); }",
		"func f() public int { return @mix(1, true); }", "func f(secret bool a) secret int { return mix(1, @a); }")
	wrongIn(t, api.ErrLabel, "func f(secret int a) public int { return (@1 + a); }", "func f(secret int a) public int { var public int b = @a; return b; }")
}

// P8.1: functions call functions that stand ahead of them alone.
func TestCalls(t *testing.T) {
	wrongIn(t, api.ErrName,
		"func f() public int { return @f(); }",
		"func f() public int { return @late(); } func late() public int { return 1; }",
		"func f() public int { return one() + @f(); }", "func f() public int { return one() + (one() - @f()); }",
		"func f(public int a) public int { return @f(f(1)); }", "func f(public int a) public int { return @late(f(1)); } func late(public int a) public int { return a; }",
		"func id(public int a) public int { return a; } func f(public int a) public int { return id(@f(1)); }",
		"func id(public int a) public int { return a; } func f(public int a) public int { return id(id(-@f(id(1)))); }",
		"func f(public int a) public bool { return !!@f(1); }",
		"func f() public int { return an[@f()]; }", "func f() public int { return an[an[@f()]]; }",
		"func f() public int { var public int x = @f(); return x; }", "func f(public int a) public int { a = @f(1); return a; }",
		"func f() public int { an[@f()] = 1; return 1; }", "func f() public int { an[1] = @f(); return 1; }",
		"func f() public bool { if (@f()) { } return true; }", "func f() public bool { while (@f()) { } return true; }",
		"func f() public bool { if (true) { } else { while (false) { if (@f()) { } } } return true; }",
		"func f() public int { return @late() + f(); } func late() public int { return 1; }", "func f() public int { return @f() + late(); } func late() public int { return 1; }",
		"func a() public int { return 1; } func b() public int { return a() + @c(); } func c() public int { return a() + b(); }")
	fineIn(t,
		"func f() public int { return one() + one(); } func h() public int { return one() + f(); }",
		"func id(public int a) public int { return a; } func f(public int a) public int { return id(id(id(one()))); }",
		"thread { out one() + late(late(1)); } func late(public int a) public int { return a; }",
		"thread { out early() + late(); } func early() public int { return 1; } thread { out late() + early(); } func late() public int { return early(); }")
}

// P8.2: statements that may be.
func TestFineStatements(t *testing.T) {
	for _, body := range []string{
		"var public int x = 1; var secret int y = x; var public bool z = true; var secret bool w = z; x = 2; y = x + y; z = !z; w = z && w;",
		"if (t) { var public int x = 1; out x; } else { var public bool x = false; out x; } var secret int x = 1; x = N;",
		"while (n < 3) { var public int x = n; n = x + 1; } while (t) { var public int x = 1; } if (true) { } else { }",
		"if (n == 1) { if (t) { var public int x = 1; } var public int x = 2; } else { var public int x = 3; if (t) { var public int y = x; } }",
		"n = 1; N = 1; N = n + N; t = true; T = t; T = N < 1; an[n] = n; aN[an[n]] = N; aN[0 - 5] = 1; at[99] = n < 1; aT[one()] = T || N == 1;",
		"out n; out t; out an[n]; out at[1]; out 1 < 2; out one(); out -one() / n;",
		"lock m { gm = am[gm]; am[gm] = gm + 1; am[1] = am[2]; if (am[0] < gm) { out gm; } while (gm == 1) { gm = 2; } }",
		"lock m { } lock m { } lock k { } lock m { lock k { Nk[gm] = am[0]; gk = gm < 1; } lock k { gk = !gk; } }",
		"lock k { lock m { if (gk) { am[0] = 1; } else { if (gk) { gm = 1; } } } } lock m { lock k { } }",
		"if (t) { lock m { gm = 1; } } else { lock m { gm = 2; } } while (t) { lock m { var public int x = gm; out x; } }",
		"lock m { var public int x = gm; } var public int x = 1; N = mix(1, true); N = mix(N, t); aN[0] = mix(aN[0], n < 1) + N;",
	} {
		fineIn(t, "thread { "+body+" }", "thread { } thread { "+body+" }", "thread { if (true) { "+body+" } } thread { } thread { }", "thread { if (false) { } else { while (t) { "+body+" } } }")
	}
}

// wrongEverywhere is wrongIn, of statements in a thread: alone, behind others, and within others.
func wrongEverywhere(t *testing.T, want api.Errno, bodies ...string) {
	t.Helper()
	for _, body := range bodies {
		wrongIn(t, want, "thread { "+body+" }", "thread { "+body+" out u; }", "thread { out 1; } thread { var secret int own = 1; "+body+" }",
			"thread { if (t) { "+body+" } else { out u; } }", "thread { if (t) { } else { "+body+" } out u; }", "thread { while (t) { if (t) { n = 1; } "+body+" } } thread { n = 1; }")
	}
}

// P8.2: Let.
func TestWrongLet(t *testing.T) {
	wrongEverywhere(t, api.ErrName, "var public int x = @u;", "var public int x = @x;", "var public int x = 1 + an[@u];", "var public int u = @v;",
		"var public int x = 1; @var public int x = 2;", "var public int x = 1; @var secret bool x = true;", "var public int x = 1; if (t) { @var public int x = 2; }", "var public int x = 1; lock m { while (t) { @var public int x = 2; } }",
		"@var public int n = 1;", "@var public int an = 1;", "@var public int m = 1;", "@var public int one = 1;", "@var secret int n = n;",
		"if (t) { var public int x = 1; } out @x;", "if (t) { var public int x = 1; } else { out @x; }", "while (t) { var public int x = 1; } out @x;", "lock m { var public int x = 1; } out @x;", "if (t) { if (t) { var public int x = 1; } out @x; }")
	wrongEverywhere(t, api.ErrType, "var public int x = @true;", "var secret int x = @T;", "var public bool x = @1;", "var secret bool x = @N;", "var public bool x = @n + 1;", "var public int x = @1 < 2;", "var public int x = @an;", "var public int x = @m;", "var public int x = -@t;", "var public int x = @one(1);")
	wrongEverywhere(t, api.ErrLabel, "var public int x = @N;", "var public bool x = @T;", "var public int x = @n + N;", "var public bool x = @N < 1;", "var public int x = @aN[0];", "var secret int x = an[@N];", "var secret int x = 1 / @N;", "var public int x = @mix(1, t);")
	wrongEverywhere(t, api.ErrGuard, "var public int x = @gm;", "var public int x = n + @gm;", "var secret int x = @am[n];", "var secret int x = an[@gm];", "lock m { var public bool x = @gk; }")
}

// P8.2: Assign.
func TestWrongAssign(t *testing.T) {
	wrongEverywhere(t, api.ErrName, "@u = 1;", "@u[0] = 1;", "@u[v] = w;", "n = @u;", "an[@u] = 1;", "an[0] = @u;", "an[n] = an[@u];", "if (t) { var public int x = 1; } @x = 1;", "an[@u] = v;")
	wrongEverywhere(t, api.ErrType, "@an = 1;", "@at = u;", "@n[0] = 1;", "@n[u] = v;", "@m = 1;", "@m[0] = u;", "@one = 1;", "@one[0] = 1;", "var public int x = 1; @x[0] = 1;", "@gm[0] = 1;", "@am = 1;",
		"an[@true] = 1;", "an[@T] = 1;", "aN[@n < 1] = u;", "an[@an] = 1;", "an[-@t] = 1;", "n = @true;", "t = @1;", "N = @t;", "T = @N;", "an[0] = @t;", "aT[0] = @N;", "var public int x = 1; x = @t;", "n = @an;", "n = 1 + @t;", "an[n] = @an;")
	wrongEverywhere(t, api.ErrLabel, "n = @N;", "t = @T;", "n = @1 + N;", "an[0] = @N;", "at[0] = @aT[0];", "an[@N] = 1;", "aN[@N] = u;", "aN[@n + N] = 1;", "aN[an[@N]] = 1;", "aN[@mix(1, t)] = 1;", "var public int x = 1; x = @N;", "N = 1 % @N;", "N = mix(N, @T);")
	wrongEverywhere(t, api.ErrGuard, "@gm = 1;", "@am[0] = 1;", "lock k { @gm = 1; }", "lock m { } @gm = 1;", "lock m { @gk = true; }", "lock m { gm = 1; } lock k { @am[1] = 1; }", "n = @gm;", "an[@gm] = 1;", "an[0] = @gm;", "lock m { aN[gm] = @Nk[gm]; }",
		"@am[n] = n;", "am[@gm] = 1;", "am[@am[0]] = 1;", "am[0] = @gm;", "gm = @gm + 1;", "an[@am[gm]] = 1;", "lock m { lock k { } if (t) { @Nk[0] = 1; } }")
}

// P8.2: If, While.
func TestWrongBranch(t *testing.T) {
	for _, key := range []string{"if", "while"} {
		wrongEverywhere(t, api.ErrName, key+" (@u) { }", key+" (t && @u) { out v; }", key+" (t) { out @u; }", key+" (true) { out 1; @x = 1; }")
		wrongEverywhere(t, api.ErrType, key+" (@1) { }", key+" (@N) { }", key+" (@n + 1) { out u; }", key+" (@an) { }", key+" (!@n) { }", key+" (t || @n) { }", key+" (t) { out @an; }")
		wrongEverywhere(t, api.ErrLabel, key+" (@T) { }", key+" (@t && T) { out u; }", key+" (@N < 1) { }", key+" (@n == N) { }", key+" (aT[@N]) { }", key+" (t) { out @N; }")
		wrongEverywhere(t, api.ErrGuard, key+" (@gk) { }", key+" (t && @gk) { out u; }", key+" (@gm < 1) { }", key+" (at[@gm]) { }", "lock m { "+key+" (@gk) { } }", key+" (t) { out @gm; }")
	}
	wrongEverywhere(t, api.ErrName, "if (t) { } else { out @u; }", "if (t) { out 1; } else { if (t) { } else { @x = 1; } }")
	wrongEverywhere(t, api.ErrLabel, "if (t) { } else { out @N; } out u;", "if (t) { out @N; } else { out u; }")
}

// P8.2: Hold.
func TestWrongHold(t *testing.T) {
	wrongEverywhere(t, api.ErrName, "@lock u { }", "@lock u { out v; }", "lock m { @lock u { } }", "lock m { out @u; }", "if (t) { var public int x = 1; } @lock x { }")
	wrongEverywhere(t, api.ErrType, "@lock n { }", "@lock an { out u; }", "@lock one { }", "var public int x = 1; @lock x { }", "lock m { @lock gm { } }", "lock m { out @an; }")
	wrongEverywhere(t, api.ErrGuard, "lock m { @lock m { } }", "lock m { @lock m { out u; } }", "lock m { lock k { @lock m { } } }", "lock m { lock k { @lock k { } } }", "lock m { if (t) { @lock m { } } }", "lock m { if (t) { } else { while (t) { @lock m { } } } }", "lock m { lock k { } @lock m { } }", "lock k { lock m { } @gm = 1; }")
}

// P8.2: Put.
func TestWrongPut(t *testing.T) {
	wrongEverywhere(t, api.ErrName, "out @u;", "out 1 + @u;", "out @u(1);")
	wrongEverywhere(t, api.ErrType, "out @an;", "out @m;", "out @one;", "out 1 + @t;", "out !@1;", "out @one(1);")
	wrongEverywhere(t, api.ErrLabel, "out @N;", "out @T;", "out @n + N;", "out @!T;", "out @aN[0];", "out @-N;", "out @n < N;", "out @mix(1, t);", "var secret int x = 1; out @x;", "lock k { out @Nk[0]; }")
	wrongEverywhere(t, api.ErrGuard, "out @gm;", "out @am[0];", "out an[@gm];", "out n + @gm;", "out @Nk[0];", "lock k { out @gm; }", "lock m { N = gm + @Nk[am[0]]; }")
}

// P8.2: in functions no globals, locks and outs.
func TestWrongInFunctions(t *testing.T) {
	for _, body := range []string{
		"@lock m { }", "@lock m { out u; }", "@out 1;", "@out u;", "@out N;", "@n = 1;", "@N = 1;", "@an[0] = 1;", "@gm = 1;", "n = @n;", "an[@n] = 1;", "an[@am[gm]] = 1;", "an[1] = one() + @gm;",
		"var public int x = @n;", "var public bool x = @t;", "var secret int x = 1 + @aN[n];", "var public int x = one() + @n;", "if (@t) { }", "while (@n < 1) { out u; }", "if (true) { @out 1; }", "if (true) { } else { @n = 1; }", "while (true) { @lock k { } }",
	} {
		wrongIn(t, api.ErrGuard, "func f() public int { "+body+" return 1; }", "func f(public int a) public int { a = 1; "+body+" return u; }", "func late() public int { return 1; } func f() public int { if (true) { "+body+" } return 1; } thread { out u; }")
	}
	wrongIn(t, api.ErrGuard, "func f() public int { return @n; }", "func f() secret int { return 1 + @aN[n]; }", "func f() public bool { return one() < 1 && @t; }", "func f() public int { return one() + @an[n]; }")
	wrongIn(t, api.ErrName, "func f() public int { @lock u { } return 1; }", "func f() public int { @u = 1; return 1; }", "func f(public int a) public int { if (true) { var public int b = a; } @b = 1; return 1; }")
	wrongIn(t, api.ErrType, "func f(public int a) public int { @lock a { } return 1; }", "func f() public int { @lock n { } return 1; }", "func f() public int { @m = 1; return 1; }", "func f(public int a) public int { @a[0] = 1; return 1; }")
}

// P8.1: globals without a guard.
func TestShared(t *testing.T) {
	wrong(t, api.ErrGuard,
		"public int @n; thread { n = 1; } thread { out n; }", "public int @n; thread { out n; } thread { n = 1; }", "public int @n; thread { n = 1; } thread { n = 1; }",
		"public int @n; thread { } thread { var public int x = n; } thread { } thread { if (false) { n = 1; } }",
		"public int @a[4]; thread { a[0] = 1; } thread { out a[1]; }", "secret int @a[4]; secret int b; thread { a[0] = 1; } thread { b = a[1]; }",
		"public int @n; lock m; thread { lock m { n = 1; } } thread { lock m { out n; } }",
		"lock m; public int a by m; public int b; public int @c; public int d; thread { d = 1; c = 1; out b; lock m { a = 1; } } thread { out b + c; d = 1; lock m { a = 1; } }",
		"public int @n; public int a[4]; thread { a[n] = 1; } thread { n = 1; }", "public int @n; public int a[4]; thread { out a[n]; } thread { n = 1; }",
		"public bool @n; thread { while (n) { } } thread { n = true; }", "public int @n; func f(public int x) public int { return x; } thread { out f(f(n)); } thread { n = 1; }")
	fine(t,
		"public int n; thread { n = n + 1; n = 2; out n; }", "public int n; thread { out n; } thread { out n; } thread { out n; }", "public int n; thread { } thread { n = 1; } thread { }",
		"public int a; public int b; thread { a = 1; out b; } thread { out b; } thread { out b; }", "public int a[2]; thread { a[0] = a[1]; } thread { }",
		"public int a; public int b; thread { a = 1; } thread { b = 1; } thread { } thread { }",
		"lock m; public int n by m; thread { lock m { n = 1; } } thread { lock m { n = n + 1; } }",
		"lock m; public int n by m; thread { lock m { n = 1; } } thread { lock m { out n; } } thread { lock m { n = 2; } }")
}
