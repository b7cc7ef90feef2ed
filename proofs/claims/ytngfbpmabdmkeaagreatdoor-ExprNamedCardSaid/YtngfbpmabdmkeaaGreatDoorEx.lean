/- An expression in memory; what a reader stands on; what its methods owe. -/
import Derived.Test.YtngfbpmabdmkeaaGreatDoorBeg
import Derived.OwnWalk
namespace Go.Proofs.YtngfbpmabdmkeaaGreatDoor
open Go Go.RowKit

def exCells (e : Ex) (v : Value) : List Value := [.int .i64 e.k, .int .i64 e.op, .int .i64 e.n, .string (bstr e.nm), v, .int .i64 e.a]
abbrev exVal (e : Ex) (v : Value) : Value := .agg #[.int .i64 e.k, .int .i64 e.op, .int .i64 e.n, .string (bstr e.nm), v, .int .i64 e.a]

/-- 'IsEx lo W e v': v is the slice of e's kids, and all of e lies in blocks from lo on. -/
inductive IsEx (lo : Nat) (W : World) : Ex → Value → Prop
  | leaf {k o n : Int} {nm : List UInt8} {a : Nat} : IsEx lo W (.mk k o n nm [] a) (.slice none 0 0)
  | node {k o n : Int} {nm : List UInt8} {ks : List Ex} {a : Nat} (g cap : Nat) (cs : Array Value) (fr : Nat × Nat) (vs : Nat → Value) : lo ≤ g → W.heap[g]? = some (.cells cs 25 fr) → ks ≠ [] →
      (∀ i e, ks[i]? = some e → ∀ j u, (exCells e (vs i))[j]? = some u → cs[i * 6 + j]? = some u) → (∀ i e, ks[i]? = some e → IsEx lo W e (vs i)) → IsEx lo W (.mk k o n nm ks a) (.slice (some ⟨g, 0, none⟩) ks.length cap)

theorem IsEx.kept {lo : Nat} {W X : World} {e : Ex} {v : Value} (h : IsEx lo W e v) (hk : ∀ g, lo ≤ g → g < W.heap.size → X.heap[g]? = W.heap[g]?) : IsEx lo X e v := by
  induction h with
  | leaf => exact .leaf
  | node g cap cs fr vs hg hb hne hc _ ih => exact .node g cap cs fr vs hg ((hk g hg (Array.getElem?_eq_some_iff.1 hb).1).trans hb) hne hc ih
theorem IsEx.low {lo lo' : Nat} {W : World} {e : Ex} {v : Value} (h : IsEx lo W e v) (hl : lo' ≤ lo) : IsEx lo' W e v := by
  induction h with
  | leaf => exact .leaf
  | node g cap cs fr vs hg hb hne hc _ ih => exact .node g cap cs fr vs (by omega) hb hne hc ih
theorem IsEx.fr {lo rb : Nat} {W X : World} {e : Ex} {v : Value} (h : IsEx lo W e v) (hf : Fr (some rb) W X) (hr : rb < lo) : IsEx lo X e v :=
  h.kept fun g hg hl => hf.block hl (by simp; omega)
theorem IsEx.stay {lo : Nat} {W X : World} {e : Ex} {v : Value} (h : IsEx lo W e v) (hf : Below W.heap.size W X) : IsEx lo X e v := h.kept fun g _ hl => hf.block g hl
theorem IsEx.alloc {lo : Nat} {W : World} {e : Ex} {v : Value} (h : IsEx lo W e v) (o : Obj) : IsEx lo (W.alloc o) e v := h.stay ((Below.refl _ _).alloc (Nat.le_refl _) _)
theorem IsEx.drewN {lo : Nat} {W : World} {e : Ex} {v : Value} (h : IsEx lo W e v) (n : Nat) : IsEx lo (W.drewN n) e v := h.kept fun _ _ _ => rfl
theorem IsEx.drew {lo : Nat} {W : World} {e : Ex} {v : Value} (h : IsEx lo W e v) : IsEx lo W.drew e v := h.kept fun _ _ _ => rfl
theorem IsEx.set {lo : Nat} {W : World} {e : Ex} {v : Value} (h : IsEx lo W e v) {b : Nat} (hb : b < lo) (o : Nat) (x : Value) : IsEx lo (W.setCell ⟨b, o, none⟩ x) e v :=
  h.kept fun g hg _ => heap_setCell_other W ⟨b, o, none⟩ g x (by simp; omega)
theorem IsEx.recast {lo : Nat} {W : World} {k o n k' o' n' : Int} {nm nm' : List UInt8} {ks : List Ex} {a a' : Nat} {v : Value} (h : IsEx lo W (.mk k o n nm ks a) v) : IsEx lo W (.mk k' o' n' nm' ks a') v := by
  cases h with
  | leaf => exact .leaf
  | node g cap cs fr vs hg hb hne hc hi => exact .node g cap cs fr vs hg hb hne hc hi
theorem IsEx.form {lo : Nat} {W : World} {e : Ex} {v : Value} (h : IsEx lo W e v) : ∃ p c, v = .slice p e.ks.length c := by
  cases h with
  | leaf => exact ⟨_, _, rfl⟩
  | node g cap => exact ⟨_, _, rfl⟩
/-- A kid's cells. -/
theorem IsEx.kid {lo : Nat} {W : World} {e : Ex} {v : Value} (h : IsEx lo W e v) {i : Nat} {x : Ex} (hx : e.ks[i]? = some x) :
    ∃ g cap u, v = .slice (some ⟨g, 0, none⟩) e.ks.length cap ∧ lo ≤ g ∧ g < W.heap.size ∧ IsEx lo W x u ∧
      W.cell? ⟨g, i * 6, none⟩ = some (.int .i64 x.k) ∧ W.cell? ⟨g, i * 6 + 1, none⟩ = some (.int .i64 x.op) ∧ W.cell? ⟨g, i * 6 + 2, none⟩ = some (.int .i64 x.n) ∧ W.cell? ⟨g, i * 6 + 3, none⟩ = some (.string (bstr x.nm)) ∧ W.cell? ⟨g, i * 6 + 4, none⟩ = some u ∧ W.cell? ⟨g, i * 6 + 5, none⟩ = some (.int .i64 x.a) := by
  cases h with
  | leaf => simp [Ex.ks] at hx
  | node g cap cs fr vs hg hb hne hc hi =>
    have key : ∀ j u, (exCells x (vs i))[j]? = some u → W.cell? ⟨g, i * 6 + j, none⟩ = some u := fun j u hu => by
      rw [cell_of_row _ _ _ _ _ _ hb]
      exact hc i x hx j u hu
    exact ⟨g, cap, vs i, rfl, hg, (Array.getElem?_eq_some_iff.1 hb).1, hi i x hx, key 0 _ rfl, key 1 _ rfl, key 2 _ rfl, key 3 _ rfl, key 4 _ rfl, key 5 _ rfl⟩

theorem heap_new (W : World) (o : Obj) : (W.alloc o).heap[W.heap.size]? = some o := by
  show (W.heap.push o)[W.heap.size]? = some o
  simp
/-- A row of one kid, and of two, that was just made. -/
theorem IsEx.one {lo : Nat} {W : World} {x : Ex} {u : Value} (h : IsEx lo W x u) (hl : lo ≤ W.heap.size) (k o n : Int) (nm : List UInt8) (a : Nat) :
    IsEx lo (W.alloc (.cells #[.int .i64 x.k, .int .i64 x.op, .int .i64 x.n, .string (bstr x.nm), u, .int .i64 x.a] 25)) (.mk k o n nm [x] a) (.slice (some ⟨W.heap.size, 0, none⟩) 1 1) := by
  refine .node W.heap.size 1 _ (0, 0) (fun _ => u) hl (heap_new _ _) (by simp) ?_ ?_
  · intro i e he j v hv
    cases i with
    | zero =>
      simp at he
      subst he
      simpa [exCells] using hv
    | succ i => simp at he
  · intro i e he
    cases i with
    | zero =>
      simp at he
      subst he
      exact h.stay ((Below.refl _ _).alloc (Nat.le_refl _) _)
    | succ i => simp at he
theorem IsEx.two {lo : Nat} {W : World} {x y : Ex} {u v : Value} (h : IsEx lo W x u) (h2 : IsEx lo W y v) (hl : lo ≤ W.heap.size) (k o n : Int) (nm : List UInt8) (a : Nat) :
    IsEx lo (W.alloc (.cells #[.int .i64 x.k, .int .i64 x.op, .int .i64 x.n, .string (bstr x.nm), u, .int .i64 x.a, .int .i64 y.k, .int .i64 y.op, .int .i64 y.n, .string (bstr y.nm), v, .int .i64 y.a] 25)) (.mk k o n nm [x, y] a) (.slice (some ⟨W.heap.size, 0, none⟩) 2 2) := by
  refine .node W.heap.size 2 _ (0, 0) (fun i => if i = 0 then u else v) hl (heap_new _ _) (by simp) ?_ ?_
  · intro i e he j w hw
    match i, he with
    | 0, he =>
      simp at he
      subst he
      simp only [exCells, if_true] at hw
      match j, hw with
      | 0, hw | 1, hw | 2, hw | 3, hw | 4, hw | 5, hw => simpa using hw
      | j + 6, hw => simp at hw
    | 1, he =>
      simp at he
      subst he
      simp only [exCells, if_neg (show ¬ (1 = 0) by decide)] at hw
      match j, hw with
      | 0, hw | 1, hw | 2, hw | 3, hw | 4, hw | 5, hw => simpa using hw
      | j + 6, hw => simp at hw
    | i + 2, he => simp at he
  · intro i e he
    have hb : Below W.heap.size W (W.alloc (.cells #[.int .i64 x.k, .int .i64 x.op, .int .i64 x.n, .string (bstr x.nm), u, .int .i64 x.a, .int .i64 y.k, .int .i64 y.op, .int .i64 y.n, .string (bstr y.nm), v, .int .i64 y.a] 25)) := (Below.refl _ _).alloc (Nat.le_refl _) _
    match i, he with
    | 0, he =>
      simp at he
      subst he
      exact h.stay hb
    | 1, he =>
      simp at he
      subst he
      exact h2.stay hb
    | i + 2, he => simp at he

theorem IsEx.oneAt {lo n : Nat} {W : World} {x : Ex} {u : Value} (h : IsEx lo W x u) (hl : lo ≤ W.heap.size) (hn : n = W.heap.size) (k o m : Int) (nm : List UInt8) (a : Nat) :
    IsEx lo (W.alloc (.cells #[.int .i64 x.k, .int .i64 x.op, .int .i64 x.n, .string (bstr x.nm), u, .int .i64 x.a] 25)) (.mk k o m nm [x] a) (.slice (some ⟨n, 0, none⟩) 1 1) := hn ▸ h.one hl k o m nm a
theorem IsEx.twoAt {lo n : Nat} {W : World} {x y : Ex} {u v : Value} (h : IsEx lo W x u) (h2 : IsEx lo W y v) (hl : lo ≤ W.heap.size) (hn : n = W.heap.size) (k o m : Int) (nm : List UInt8) (a : Nat) :
    IsEx lo (W.alloc (.cells #[.int .i64 x.k, .int .i64 x.op, .int .i64 x.n, .string (bstr x.nm), u, .int .i64 x.a, .int .i64 y.k, .int .i64 y.op, .int .i64 y.n, .string (bstr y.nm), v, .int .i64 y.a] 25)) (.mk k o m nm [x, y] a) (.slice (some ⟨n, 0, none⟩) 2 2) := hn ▸ h.two h2 hl k o m nm a

/-- What stands still while a reader reads. -/
structure Env (rb g cap mb bx : Nat) (ws : List Wd) (W : World) : Prop where
  wc : WCells W g ws
  map : BegMap W mb bx
  box : W.heap[bx]? = some (.cells #[.pointer (some ⟨rb, 0, none⟩)] 118 (0, 0))
  ne1 : g ≠ rb
  ne2 : mb ≠ rb
  ne3 : bx ≠ rb
  base : Base W rb
  few : ws.length < 1000000
  long : ∀ x ∈ ws, x.t.length ≤ 100000
theorem Env.kept {rb g cap mb bx : Nat} {ws : List Wd} {W X : World} (E : Env rb g cap mb bx ws W) (hf : Fr (some rb) W X) : Env rb g cap mb bx ws X where
  wc := E.wc.kept (fun k e => hf.block (by rw [e]; exact E.wc.lt) (by simp; rw [e]; exact E.ne1)) hf.size
  map := E.map.kept (fun k hk e => hf.block hk (by simp; rw [e]; exact E.ne2))
  box := (hf.block (Array.getElem?_eq_some_iff.1 E.box).1 (by simp; exact E.ne3)).trans E.box
  ne1 := E.ne1
  ne2 := E.ne2
  ne3 := E.ne3
  base := E.base.kept hf
  few := E.few
  long := E.long

/-- The reader stands at the words ts. -/
abbrev StAt (W : World) (rb g cap mb : Nat) (ws ts : List Wd) (op bad at' : Int) : Prop := RdAt W rb (.slice (some ⟨g, 0, none⟩) ws.length cap) (.map (some mb)) ((ws.length - ts.length : Nat) : Int) op bad at'
theorem suf_at {ws ts : List Wd} {w : Wd} (h : (w :: ts) <:+ ws) : ws[ws.length - (w :: ts).length]? = some w ∧ ws.length - (w :: ts).length + 1 = ws.length - ts.length ∧ ts <:+ ws := by
  obtain ⟨pre, rfl⟩ := h
  refine ⟨?_, ?_, ?_⟩
  · simp
  · simp
    omega
  · exact ⟨pre ++ [w], by simp⟩
theorem StAt.rdr {W : World} {rb g cap mb bx : Nat} {ws ts : List Wd} {w : Wd} {op bad at' : Int} (S : StAt W rb g cap mb ws (w :: ts) op bad at') (E : Env rb g cap mb bx ws W) (h : (w :: ts) <:+ ws) :
    Rdr W rb g cap mb ws (ws.length - (w :: ts).length) w op bad at' := ⟨S, E.wc, E.ne1, (suf_at h).1⟩

/-- Whatever stands in an expression's place. -/
def Junk (v : Value) : Prop := ∃ (k o n : Int) (nm : ByteArray) (p : Option Addr) (l c : Nat) (a : Int), v = exV k o n nm (.slice p l c) a
def JunkL (v : Value) : Prop := ∃ (p : Option Addr) (l c : Nat), v = .slice p l c
/-- How a method of the reader ends. -/
def Ended (Jk : Value → Prop) (lo rb g cap mb : Nat) (ws : List Wd) (o : Nat) : Res → Ending → World → Prop
  | .ok x ts', e, w' => ∃ u, IsEx lo w' x u ∧ e = .returned (.tuple #[exVal x u, .bool true]) ∧ ∃ bad at', StAt w' rb g cap mb ws ts' o bad at'
  | .okL xs ts', e, w' => ∃ u, IsEx lo w' (.mk 0 0 0 [] xs 0) u ∧ e = .returned (.tuple #[u, .bool true]) ∧ ∃ bad at', StAt w' rb g cap mb ws ts' o bad at'
  | .bad c a, e, w' => (∃ v, e = .returned (.tuple #[v, .bool false]) ∧ Jk v) ∧ ∃ nx op : Int, RdAt w' rb (.slice (some ⟨g, 0, none⟩) ws.length cap) (.map (some mb)) nx op c a

theorem Junk.zero : Junk (exV 0 0 0 ⟨#[]⟩ (.slice none 0 0) 0) := ⟨_, _, _, _, _, _, _, _, rfl⟩
theorem Junk.of (k o n : Int) (nm : ByteArray) (p : Option Addr) (l c : Nat) (a : Int) : Junk (exV k o n nm (.slice p l c) a) := ⟨_, _, _, _, _, _, _, _, rfl⟩
theorem ended_bad {Jk : Value → Prop} {lo rb g cap mb : Nat} {ws : List Wd} {o : Nat} {c : Int} {a : Nat} {v : Value} {w' : World} {nx op : Int} (hv : Jk v) (h : RdAt w' rb (.slice (some ⟨g, 0, none⟩) ws.length cap) (.map (some mb)) nx op c a) :
    Ended Jk lo rb g cap mb ws o (.bad c a) (.returned (.tuple #[v, .bool false])) w' := ⟨⟨v, rfl, hv⟩, nx, op, h⟩
theorem ended_ok {Jk : Value → Prop} {lo rb g cap mb : Nat} {ws : List Wd} {o : Nat} {x : Ex} {ts' : List Wd} {u : Value} {w' : World} {bad at' : Int} (hu : IsEx lo w' x u) (h : StAt w' rb g cap mb ws ts' o bad at') :
    Ended Jk lo rb g cap mb ws o (.ok x ts') (.returned (.tuple #[exVal x u, .bool true])) w' := ⟨u, hu, rfl, bad, at', h⟩
theorem ended_okL {Jk : Value → Prop} {lo rb g cap mb : Nat} {ws : List Wd} {o : Nat} {xs : List Ex} {ts' : List Wd} {u : Value} {w' : World} {bad at' : Int} (hu : IsEx lo w' (.mk 0 0 0 [] xs 0) u) (h : StAt w' rb g cap mb ws ts' o bad at') :
    Ended Jk lo rb g cap mb ws o (.okL xs ts') (.returned (.tuple #[u, .bool true])) w' := ⟨u, hu, rfl, bad, at', h⟩
def Snd (Jk : Value → Prop) (rb g cap mb bx : Nat) (ws : List Wd) (f : Nat) (args : Array Value) (o : Nat) (ts : List Wd) (r : Res) : Prop :=
  ∀ W bad at', Env rb g cap mb bx ws W → StAt W rb g cap mb ws ts o bad at' → Calls Tryz.prog f args W fun e w' => Fr (some rb) W w' ∧ Ended Jk W.heap.size rb g cap mb ws o r e w'
theorem Snd.ok {Jk : Value → Prop} {rb g cap mb bx : Nat} {ws : List Wd} {f : Nat} {args : Array Value} {o : Nat} {ts : List Wd} {x : Ex} {ts' : List Wd} (h : Snd Jk rb g cap mb bx ws f args o ts (.ok x ts')) (W : World) (bad at' : Int) (E : Env rb g cap mb bx ws W) (S : StAt W rb g cap mb ws ts o bad at') :
    Calls Tryz.prog f args W fun e w' => Fr (some rb) W w' ∧ ∃ p l c, IsEx W.heap.size w' x (.slice p l c) ∧ e = .returned (.tuple #[exVal x (.slice p l c), .bool true]) ∧ ∃ bad at', StAt w' rb g cap mb ws ts' o bad at' :=
  Calls.mono (h W bad at' E S) fun e w' ⟨h1, u, h2, h3, h4⟩ => by
    obtain ⟨p, c, rfl⟩ := h2.form
    exact ⟨h1, p, _, c, h2, h3, h4⟩
theorem Snd.okL {Jk : Value → Prop} {rb g cap mb bx : Nat} {ws : List Wd} {f : Nat} {args : Array Value} {o : Nat} {ts : List Wd} {xs : List Ex} {ts' : List Wd} (h : Snd Jk rb g cap mb bx ws f args o ts (.okL xs ts')) (W : World) (bad at' : Int) (E : Env rb g cap mb bx ws W) (S : StAt W rb g cap mb ws ts o bad at') :
    Calls Tryz.prog f args W fun e w' => Fr (some rb) W w' ∧ ∃ p l c, IsEx W.heap.size w' (.mk 0 0 0 [] xs 0) (.slice p l c) ∧ e = .returned (.tuple #[.slice p l c, .bool true]) ∧ ∃ bad at', StAt w' rb g cap mb ws ts' o bad at' :=
  Calls.mono (h W bad at' E S) fun e w' ⟨h1, u, h2, h3, h4⟩ => by
    obtain ⟨p, c, rfl⟩ := h2.form
    exact ⟨h1, p, _, c, h2, h3, h4⟩
theorem Snd.bad {Jk : Value → Prop} {rb g cap mb bx : Nat} {ws : List Wd} {f : Nat} {args : Array Value} {o : Nat} {ts : List Wd} {c : Int} {a : Nat} (h : Snd Jk rb g cap mb bx ws f args o ts (.bad c a)) (W : World) (bad at' : Int) (E : Env rb g cap mb bx ws W) (S : StAt W rb g cap mb ws ts o bad at') :
    Calls Tryz.prog f args W fun e w' => Fr (some rb) W w' ∧ (∃ v, e = .returned (.tuple #[v, .bool false]) ∧ Jk v) ∧ ∃ nx op : Int, RdAt w' rb (.slice (some ⟨g, 0, none⟩) ws.length cap) (.map (some mb)) nx op c a := h W bad at' E S
theorem Snd.badE {rb g cap mb bx : Nat} {ws : List Wd} {f : Nat} {args : Array Value} {o : Nat} {ts : List Wd} {c : Int} {a : Nat} (h : Snd Junk rb g cap mb bx ws f args o ts (.bad c a)) (W : World) (bad at' : Int) (E : Env rb g cap mb bx ws W) (S : StAt W rb g cap mb ws ts o bad at') :
    Calls Tryz.prog f args W fun e w' => Fr (some rb) W w' ∧ (∃ k o n nm p l c a, e = .returned (.tuple #[exV k o n nm (.slice p l c) a, .bool false])) ∧ ∃ nx op : Int, RdAt w' rb (.slice (some ⟨g, 0, none⟩) ws.length cap) (.map (some mb)) nx op c a :=
  Calls.mono (h W bad at' E S) fun e w' ⟨h1, ⟨v, h2, k, o, n, nm, p, l, c, a, h3⟩, h4⟩ => ⟨h1, ⟨k, o, n, nm, p, l, c, a, h3 ▸ h2⟩, h4⟩
def Goal (rb g cap mb bx : Nat) (ws : List Wd) : Job → Nat → List Wd → Res → Prop
  | .thing => Snd Junk rb g cap mb bx ws 104 #[.pointer (some ⟨rb, 0, none⟩)]
  | .beh k => Snd Junk rb g cap mb bx ws 93 #[.pointer (some ⟨rb, 0, none⟩), .int .i64 k]
  | .wth c => Snd Junk rb g cap mb bx ws 96 #[.pointer (some ⟨rb, 0, none⟩), .string (bstr c)]
  | .nam => Snd Junk rb g cap mb bx ws 103 #[.pointer (some ⟨rb, 0, none⟩)]
  | .giv => Snd JunkL rb g cap mb bx ws 133 #[.pointer (some ⟨rb, 0, none⟩)]
  | .expr r => Snd Junk rb g cap mb bx ws 55 #[.pointer (some ⟨rb, 0, none⟩), .int .i64 r]
  | _ => fun _ _ _ => True
def Job.wt : Job → Nat | .thing => 1 | .expr _ => 2 | .list _ => 3 | _ => 0
/-- Whether a job may begin at words. -/
def Job.may : Job → List Wd → Prop
  | .beh _, ts => ∀ w t, ts = w :: t → w.k = 2
  | .wth _, ts => ∀ w t, ts = w :: t → w.k = 2
  | .giv, ts => ∀ w t, ts = w :: t → w.k = 2
  | .nam, ts => ∀ w t, ts = w :: t → w.k = 0
  | .expr r, _ => 1 ≤ r ∧ r ≤ 11
  | .loop r _, _ => 1 ≤ r ∧ r ≤ 11
  | _, _ => True
/-- All that is smaller has been shown. -/
def Below' (rb g cap mb bx : Nat) (ws : List Wd) (N : Nat) : Prop :=
  ∀ j o ts r, P o j ts r → ts <:+ ws → Fin ts → j.may ts → o ≤ 32 → 4 * ts.length + j.wt < N → Goal rb g cap mb bx ws j o ts r

theorem P.post' {o : Nat} {j : Job} {ts : List Wd} {r : Res} (h : P o j ts r) (hm : j.may ts) (hf : Fin ts) : Post j ts r := by
  refine h.post ?_ hf ?_ ?_ ?_ ?_
  · cases j <;> first | exact hm.1 | trivial
  · rintro rfl; exact hm
  · rintro k rfl; exact hm
  · rintro c rfl; exact hm
  · rintro rfl; exact hm
end Go.Proofs.YtngfbpmabdmkeaaGreatDoor
