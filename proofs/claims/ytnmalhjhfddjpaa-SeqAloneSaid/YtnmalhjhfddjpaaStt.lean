/- A thread of a run, as it stands in memory, and what an instruction makes of it. -/
import Derived.Test.YtnmalhjhfddjpaaSb
namespace Go.Proofs.Ytnmalhjhfddjpaa
set_option linter.unusedSimpArgs false
set_option linter.unusedVariables false
open Go Go.RowKit Go.ChangeMaps Go.MapKept Go.WideElems Go.Maps

/-- How a thread stands, with the memory and the locks that all have. -/
structure S1 where
  pc : Int
  over : Bool
  regs : Int → Int
  mem : List Int
  own : Int → Int
def rset (r : Int → Int) (d n : Int) : Int → Int := if 0 ≤ d then fun q => if q = d then n else r q else r
def mset (l : List Int) (q n : Int) : List Int := if 0 ≤ q then l.set q.toNat n else l
def mget (l : List Int) (q : Int) : Int := if 0 ≤ q then l.getD q.toNat 0 else 0
def oset (o : Int → Int) (l t : Int) : Int → Int := fun q => if q = l then t else o q
/-- What a turn's instruction comes to: the event, what it is, and whether the turn is over. -/
structure Rs where
  ek : Int
  et : Int
  en : Int
  what : Int
  fin : Bool
abbrev Rs.v (r : Rs) : Value := .tuple #[.agg #[.int .i64 r.ek, .int .i64 r.et, .int .i64 r.en], .int .i64 r.what, .bool r.fin]
def goes : Rs := ⟨0, 0, 0, 0, false⟩
def S1.to (x : S1) (p : Int) : S1 × Rs := ({ x with pc := p }, goes)
def S1.on (x : S1) : S1 × Rs := x.to (x.pc + 1)
def S1.did (x : S1) (t k n : Int) : S1 × Rs := ({ x with pc := x.pc + 1 }, ⟨k, t, n, 0, true⟩)
def S1.fin (x : S1) (t k n : Int) : S1 × Rs := ({ x with over := true }, ⟨k, t, n, 0, true⟩)
def S1.set (x : S1) (d n : Int) : S1 := { x with regs := rset x.regs d n }
def wordM (x : S1) (i : Ic) : Int := wrap64 (i.n + x.regs i.a)
/-- What each kind does. -/
def doM (t : Int) (i : Ic) (x : S1) : S1 × Rs :=
  if i.k = 0 then (x.set i.d i.n).on
  else if i.k = 1 then (x.set i.d (x.regs i.a)).on
  else if i.k = 2 then (x.set i.d (ev i.o (x.regs i.a) (x.regs i.b))).on
  else if i.k = 3 then (if x.regs i.a = 0 then x.on else (x.set i.d (x.regs i.b)).on)
  else if i.k = 4 then (x.set i.d (mget x.mem (wordM x i))).on
  else if i.k = 5 then ({ x with mem := mset x.mem (wordM x i) (x.regs i.b) } : S1).on
  else if i.k = 6 then x.to i.t
  else if i.k = 7 then (if x.regs i.a = 0 then x.to i.t else x.on)
  else if i.k = 9 then (if x.own i.n = -1 then ({ x with own := oset x.own i.n t } : S1).did t 1 i.n else (x, ⟨0, 0, 0, 1, true⟩))
  else if i.k = 10 then ({ x with own := oset x.own i.n (-1) } : S1).did t 2 i.n
  else if i.k = 11 then x.did t 0 (x.regs i.a)
  else if i.k = 12 then x.fin t 3 i.n
  else if i.k = 13 then x.fin t 4 0
  else x.on
def aheadM (c : List Ic) (q : Int) : Ic := if 0 ≤ q then c.getD q.toNat ⟨13, 0, 0, 0, 0, 0, 0⟩ else ⟨13, 0, 0, 0, 0, 0, 0⟩
def stepM (t : Int) (c : List Ic) (x : S1) : S1 × Rs := doM t (aheadM c x.pc) x
/-- A turn with so much fuel. -/
def turnM (t : Int) (c : List Ic) : Nat → S1 → S1 × Rs
  | 0, x => (x, ⟨0, 0, 0, 3, true⟩)
  | f + 1, x => if (stepM t c x).2.fin then stepM t c x else turnM t c f (stepM t c x).1

/-- Where a thread, and its run, stand in memory. -/
structure V where
  rb : Nat
  tb : Nat
  rm : Nat
  dm : Nat
  om : Nat
  num : Int
  cp : Option Addr
  cc : Nat
  code : List Ic
  tv : Value
  mp : Option Addr
  mn : Nat
  mc : Nat
/-- The blocks that a turn of it may write. -/
def V.S (v : V) (k : Nat) : Prop := k = v.tb ∨ k = v.rm ∨ k = v.om ∨ ∃ a, v.mp = some a ∧ k = a.block
/-- Nothing of it lies in two places. -/
structure V.Ok (v : V) : Prop where
  rb : ¬ v.S v.rb
  dm : ¬ v.S v.dm
  tr : v.tb ≠ v.rm
  to : v.tb ≠ v.om
  ro : v.rm ≠ v.om
  mt : ∀ a, v.mp = some a → v.tb ≠ a.block ∧ v.rm ≠ a.block ∧ v.om ≠ a.block
  cd : ∀ a, v.cp = some a → ¬ v.S a.block
/-- An instruction's seven cells, from one on. -/
structure At7 (w : World) (g q : Nat) (x : Ic) : Prop where
  k : w.cell? ⟨g, q, none⟩ = some (.int .i64 x.k)
  o : w.cell? ⟨g, q + 1, none⟩ = some (.int .i64 x.o)
  d : w.cell? ⟨g, q + 2, none⟩ = some (.int .i64 x.d)
  a : w.cell? ⟨g, q + 3, none⟩ = some (.int .i64 x.a)
  b : w.cell? ⟨g, q + 4, none⟩ = some (.int .i64 x.b)
  n : w.cell? ⟨g, q + 5, none⟩ = some (.int .i64 x.n)
  t : w.cell? ⟨g, q + 6, none⟩ = some (.int .i64 x.t)
theorem At7.same {W W' : World} {g q : Nat} {x : Ic} (h : At7 W g q x) (hb : W'.heap[g]? = W.heap[g]?) : At7 W' g q x where
  k := (World.cell?_of_block (a := ⟨g, q, none⟩) hb).trans h.k
  o := (World.cell?_of_block (a := ⟨g, q + 1, none⟩) hb).trans h.o
  d := (World.cell?_of_block (a := ⟨g, q + 2, none⟩) hb).trans h.d
  a := (World.cell?_of_block (a := ⟨g, q + 3, none⟩) hb).trans h.a
  b := (World.cell?_of_block (a := ⟨g, q + 4, none⟩) hb).trans h.b
  n := (World.cell?_of_block (a := ⟨g, q + 5, none⟩) hb).trans h.n
  t := (World.cell?_of_block (a := ⟨g, q + 6, none⟩) hb).trans h.t
/-- A code in memory. -/
def CodeAt (w : World) (p : Option Addr) (c : List Ic) : Prop := ∀ i x, c[i]? = some x → ∃ g o, p = some ⟨g, o, none⟩ ∧ g < w.heap.size ∧ At7 w g (o + i * 7) x ∧ Ok6 x
theorem CodeAt.same {W W' : World} {p : Option Addr} {c : List Ic} (h : CodeAt W p c) (hs : W.heap.size ≤ W'.heap.size) (hb : ∀ a, p = some a → a.block < W.heap.size → W'.heap[a.block]? = W.heap[a.block]?) : CodeAt W' p c := fun i x hx => by
  obtain ⟨g, o, h1, h2, h3, h4⟩ := h i x hx
  exact ⟨g, o, h1, Nat.lt_of_lt_of_le h2 hs, h3.same (hb _ h1 h2), h4⟩
theorem CodeAt.stay {W W' : World} {p : Option Addr} {c : List Ic} (h : CodeAt W p c) (hb : Below W.heap.size W W') : CodeAt W' p c := h.same hb.size fun _ _ hl => hb.block _ hl
/-- Words in memory. -/
def MemAt (w : World) (p : Option Addr) (l : List Int) : Prop := ∀ i n, l[i]? = some n → ∃ g o, p = some ⟨g, o, none⟩ ∧ g < w.heap.size ∧ w.cell? ⟨g, o + i, none⟩ = some (.int .i64 n) ∧ w.frozen? ⟨g, o + i, none⟩ = false
theorem MemAt.same {W W' : World} {p : Option Addr} {l : List Int} (h : MemAt W p l) (hs : W.heap.size ≤ W'.heap.size) (hb : ∀ a, p = some a → a.block < W.heap.size → W'.heap[a.block]? = W.heap[a.block]?) : MemAt W' p l := fun i x hx => by
  obtain ⟨g, o, h1, h2, h3, h4⟩ := h i x hx
  exact ⟨g, o, h1, Nat.lt_of_lt_of_le h2 hs, (World.cell?_of_block (a := ⟨g, o + i, none⟩) (hb ⟨g, o, none⟩ h1 h2)).trans h3, (World.frozen?_of_block (a := ⟨g, o + i, none⟩) (hb ⟨g, o, none⟩ h1 h2)).trans h4⟩
theorem MemAt.set {W : World} {g o : Nat} {l : List Int} (h : MemAt W (some ⟨g, o, none⟩) l) {k : Nat} (hk : k < l.length) (n : Int) : MemAt (W.setCell ⟨g, o + k, none⟩ (.int .i64 n)) (some ⟨g, o, none⟩) (l.set k n) := fun i x hx => by
  have hil : i < l.length := by
    have := (List.getElem?_eq_some_iff.1 hx).1
    simpa using this
  obtain ⟨g', o', h1, h2, h3, h4⟩ := h i l[i] (List.getElem?_eq_getElem hil)
  cases h1
  refine ⟨g, o, rfl, by simpa [World.setCell] using h2, ?_, ?_⟩
  · by_cases e : i = k
    · subst e
      rw [List.getElem?_set_self hil] at hx
      cases hx
      exact World.cell?_setCell_same _ _ _ h3
    · rw [List.getElem?_set_ne (Ne.symm e)] at hx
      rw [World.cell?_setCell_other _ _ _ _ (by
        intro hh
        simp at hh
        try omega), h3]
      rw [List.getElem?_eq_getElem hil] at hx
      cases hx
      rfl
  · rw [World.frozen?_setCell]
    exact h4
/-- Registers in a map. -/
def RM (W : World) (b n : Nat) (r : Int → Int) : Prop := ∃ f, KM 3 W b n f ∧ ∀ q, (f q = none ∧ r q = 0) ∨ f q = some (.int .i64 (r q))
/-- Locks in a map. -/
def OM (W : World) (b n : Nat) (o : Int → Int) : Prop := ∃ f, KM 2 W b n f ∧ ∀ q, (f q = none ∧ o q = -1) ∨ f q = some (.int .i64 (o q))
/-- What does each kind. -/
def kindF (q : Int) : Option Nat :=
  if q = 0 then some 24 else if q = 1 then some 25 else if q = 2 then some 26 else if q = 3 then some 27
  else if q = 4 then some 28 else if q = 5 then some 29 else if q = 6 then some 30 else if q = 7 then some 31
  else if q = 8 then some 23 else if q = 9 then some 32 else if q = 10 then some 33 else if q = 11 then some 34
  else if q = 12 then some 35 else if q = 13 then some 36 else none
def DM (W : World) (b tb : Nat) : Prop := ∃ n f, KM 3 W b n f ∧ ∀ q, f q = (kindF q).map fun g => .func (.func g) #[.pointer (some ⟨tb, 0, none⟩)] #[]
section
variable {W X : World} {b n : Nat}
theorem RM.same {r : Int → Int} (h : RM W b n r) (e : X.heap[b]? = W.heap[b]?) : RM X b n r := by
  obtain ⟨f, h1, h2⟩ := h
  exact ⟨f, h1.same e, h2⟩
theorem OM.same {o : Int → Int} (h : OM W b n o) (e : X.heap[b]? = W.heap[b]?) : OM X b n o := by
  obtain ⟨f, h1, h2⟩ := h
  exact ⟨f, h1.same e, h2⟩
theorem DM.same {tb : Nat} (h : DM W b tb) (e : X.heap[b]? = W.heap[b]?) : DM X b tb := by
  obtain ⟨n, f, h1, h2⟩ := h
  exact ⟨n, f, h1.same e, h2⟩
theorem RM.lt {r : Int → Int} (h : RM W b n r) : b < W.heap.size := by
  obtain ⟨f, h1, h2⟩ := h
  exact h1.lt
theorem OM.lt {o : Int → Int} (h : OM W b n o) : b < W.heap.size := by
  obtain ⟨f, h1, h2⟩ := h
  exact h1.lt
theorem DM.lt {tb : Nat} (h : DM W b tb) : b < W.heap.size := by
  obtain ⟨n, f, h1, h2⟩ := h
  exact h1.lt
theorem RM.mono {r : Int → Int} (h : RM W b n r) {m : Nat} (hm : n ≤ m) : RM W b m r := by
  obtain ⟨f, h1, h2⟩ := h
  exact ⟨f, h1.mono hm, h2⟩
theorem OM.mono {o : Int → Int} (h : OM W b n o) {m : Nat} (hm : n ≤ m) : OM W b m o := by
  obtain ⟨f, h1, h2⟩ := h
  exact ⟨f, h1.mono hm, h2⟩
theorem RM.look {r : Int → Int} (h : RM W b n r) {q : Int} (hq : In6 q) : (Instr.lookup 59 (.map (some b)) (.int .i64 q) false).run Try.prog W = .ok (.int .i64 (r q)) W := by
  obtain ⟨f, h1, h2⟩ := h
  have := h1.look_ok keyedI Try.underlying59 (zeroL W) (keyI hq) false
  rw [this]
  rcases h2 q with ⟨e1, e2⟩ | e1
  · simp [e1, e2]
  · simp [e1]
theorem OM.look {o : Int → Int} (h : OM W b n o) {q : Int} (hq : In6 q) : (o q = -1 ∧ (Instr.lookup 51 (.map (some b)) (.int .i64 q) true).run Try.prog W = .ok (.tuple #[.int .i64 0, .bool false]) W) ∨ (Instr.lookup 51 (.map (some b)) (.int .i64 q) true).run Try.prog W = .ok (.tuple #[.int .i64 (o q), .bool true]) W := by
  obtain ⟨f, h1, h2⟩ := h
  have := h1.look_ok keyedL Try.underlying51 (zeroI W) (keyL hq) true
  rw [this]
  rcases h2 q with ⟨e1, e2⟩ | e1
  · exact .inl ⟨e2, by simp [e1]⟩
  · exact .inr (by simp [e1])
/-- A lock has an owner. -/
theorem OM.put {X : World} {o : Int → Int} {q t : Int} {f : KF} (hf : ∀ q, (f q = none ∧ o q = -1) ∨ f q = some (.int .i64 (o q))) (hk : KM 2 X b (n + 1) (f.upd q (.int .i64 t))) : OM X b (n + 1) (oset o q t) := ⟨_, hk, fun p => by
  unfold KF.upd oset
  by_cases e : p = q
  · simp [e]
  · simpa [e] using hf p⟩
/-- A lock has none. -/
theorem OM.del {X : World} {o : Int → Int} {q : Int} {f : KF} (hf : ∀ q, (f q = none ∧ o q = -1) ∨ f q = some (.int .i64 (o q))) (hk : KM 2 X b n (f.del q)) : OM X b n (oset o q (-1)) := ⟨_, hk, fun p => by
  unfold KF.del oset
  by_cases e : p = q
  · simp [e]
  · simpa [e] using hf p⟩
theorem DM.look {tb : Nat} (h : DM W b tb) {q : Int} (hq : In6 q) : (Instr.lookup 58 (.map (some b)) (.int .i64 q) true).run Try.prog W = .ok (match kindF q with | some g => .tuple #[.func (.func g) #[.pointer (some ⟨tb, 0, none⟩)] #[], .bool true] | none => .tuple #[.nilFunc, .bool false]) W := by
  obtain ⟨n, f, h1, h2⟩ := h
  have := h1.look_ok keyedI Try.underlying58 (zeroD W) (keyI hq) true
  rw [this, h2 q]
  cases kindF q <;> rfl
end

/-- All of it lies below B. -/
structure V.Lt (v : V) (B : Nat) : Prop where
  rb : v.rb < B
  tb : v.tb < B
  rm : v.rm < B
  dm : v.dm < B
  om : v.om < B
  mp : ∀ a, v.mp = some a → a.block < B
  cp : ∀ a, v.cp = some a → a.block < B
theorem V.Lt.mono {v : V} {B C : Nat} (h : v.Lt B) (hc : B ≤ C) : v.Lt C := ⟨Nat.lt_of_lt_of_le h.rb hc, Nat.lt_of_lt_of_le h.tb hc, Nat.lt_of_lt_of_le h.rm hc, Nat.lt_of_lt_of_le h.dm hc, Nat.lt_of_lt_of_le h.om hc, fun a e => Nat.lt_of_lt_of_le (h.mp a e) hc, fun a e => Nat.lt_of_lt_of_le (h.cp a e) hc⟩
theorem V.Lt.S {v : V} {B k : Nat} (h : v.Lt B) (hk : v.S k) : k < B := by
  rcases hk with rfl | rfl | rfl | ⟨a, e, rfl⟩
  · exact h.tb
  · exact h.rm
  · exact h.om
  · exact h.mp a e
/-- So a thread of a run stands in memory. -/
structure TV (W : World) (v : V) (x : S1) (N : Nat) : Prop where
  run : Rb W v.rb v.tv (.slice v.mp v.mn v.mc) (.map (some v.om))
  thr : Tb W v.tb (.pointer (some ⟨v.rb, 0, none⟩)) (.int .i64 v.num) (.slice v.cp v.code.length v.cc) (.map (some v.dm)) (.map (some v.rm)) (.int .i64 x.pc) (.bool x.over)
  doe : DM W v.dm v.tb
  reg : RM W v.rm N x.regs
  own : OM W v.om N x.own
  cod : CodeAt W v.cp v.code
  mem : MemAt W v.mp x.mem
  len : x.mem.length = v.mn
  sm : v.mn < 1000000 ∧ v.code.length < 1000000
  ok : v.Ok
  lt : v.Lt W.heap.size
section
variable {W X : World} {v : V} {x : S1} {N : Nat}
/-- A world in which nothing of it was turned. -/
theorem TV.same (h : TV W v x N) (hs : W.heap.size ≤ X.heap.size) (hb : ∀ k, k < W.heap.size → (k = v.rb ∨ k = v.dm ∨ v.S k ∨ ∃ a, v.cp = some a ∧ k = a.block) → X.heap[k]? = W.heap[k]?) : TV X v x N :=
  ⟨(hb _ h.lt.rb (.inl rfl)).trans h.run, (hb _ h.lt.tb (.inr (.inr (.inl (.inl rfl))))).trans h.thr, h.doe.same (hb _ h.lt.dm (.inr (.inl rfl))), h.reg.same (hb _ h.lt.rm (.inr (.inr (.inl (.inr (.inl rfl)))))), h.own.same (hb _ h.lt.om (.inr (.inr (.inl (.inr (.inr (.inl rfl))))))),
   h.cod.same hs fun a e hl => hb _ hl (.inr (.inr (.inr ⟨a, e, rfl⟩))), h.mem.same hs fun a e hl => hb _ hl (.inr (.inr (.inl (.inr (.inr (.inr ⟨a, e, rfl⟩)))))), h.len, h.sm, h.ok, h.lt.mono hs⟩
theorem TV.stay (h : TV W v x N) (hb : Below W.heap.size W X) : TV X v x N := h.same hb.size fun k hk _ => hb.block k hk
theorem TV.drewN (h : TV W v x N) (n : Nat) : TV (W.drewN n) v x N := h.same (Nat.le_refl _) fun _ _ _ => rfl
theorem TV.drew (h : TV W v x N) : TV W.drew v x N := h.same (Nat.le_refl _) fun _ _ _ => rfl
theorem TV.alloc (h : TV W v x N) (o : Obj) : TV (W.alloc o) v x N := h.stay ((Below.refl _ _).alloc (Nat.le_refl _) o)
theorem TV.mono (h : TV W v x N) {M : Nat} (hm : N ≤ M) : TV W v x M := { h with reg := h.reg.mono hm, own := h.own.mono hm }
theorem V.Lt.ne {B b k : Nat} (h : v.Lt B) (hB : B ≤ b) (hk : k = v.rb ∨ k = v.dm ∨ v.S k ∨ ∃ a, v.cp = some a ∧ k = a.block) : k ≠ b := by
  have : k < B := by
    rcases hk with rfl | rfl | hk | ⟨a, e, rfl⟩
    · exact h.rb
    · exact h.dm
    · exact h.S hk
    · exact h.cp a e
  omega
/-- A block of the caller's own is written. -/
theorem TV.set (h : TV W v x N) {B b : Nat} (hl : v.Lt B) (hB : B ≤ b) (o : Nat) (u : Value) : TV (W.setCell ⟨b, o, none⟩ u) v x N :=
  h.same (by simp [World.setCell]) fun k _ hk => heap_setCell_other W ⟨b, o, none⟩ k u (hl.ne hB hk)
/-- The thread's place is written. -/
theorem TV.setPc (h : TV W v x N) (p : Int) : TV (W.setCell ⟨v.tb, 5, none⟩ (.int .i64 p)) v { x with pc := p } N := by
  have hb : ∀ k, k ≠ v.tb → (W.setCell ⟨v.tb, 5, none⟩ (.int .i64 p)).heap[k]? = W.heap[k]? := fun k hk => heap_setCell_other W ⟨v.tb, 5, none⟩ k _ hk
  have ok := h.ok
  exact ⟨(hb _ fun e => ok.rb (.inl e)).trans h.run, h.thr.set5 _, h.doe.same (hb _ fun e => ok.dm (.inl e)), h.reg.same (hb _ ok.tr.symm), h.own.same (hb _ ok.to.symm), h.cod.same (by simp [World.setCell]) fun a e _ => hb _ fun e2 => ok.cd a e (.inl e2), h.mem.same (by simp [World.setCell]) fun a e _ => hb _ (ok.mt a e).1.symm, h.len, h.sm, ok, by simpa [World.setCell] using h.lt⟩
theorem TV.setOver (h : TV W v x N) (p : Bool) : TV (W.setCell ⟨v.tb, 6, none⟩ (.bool p)) v { x with over := p } N := by
  have hb : ∀ k, k ≠ v.tb → (W.setCell ⟨v.tb, 6, none⟩ (.bool p)).heap[k]? = W.heap[k]? := fun k hk => heap_setCell_other W ⟨v.tb, 6, none⟩ k _ hk
  have ok := h.ok
  exact ⟨(hb _ fun e => ok.rb (.inl e)).trans h.run, h.thr.set6 _, h.doe.same (hb _ fun e => ok.dm (.inl e)), h.reg.same (hb _ ok.tr.symm), h.own.same (hb _ ok.to.symm), h.cod.same (by simp [World.setCell]) fun a e _ => hb _ fun e2 => ok.cd a e (.inl e2), h.mem.same (by simp [World.setCell]) fun a e _ => hb _ (ok.mt a e).1.symm, h.len, h.sm, ok, by simpa [World.setCell] using h.lt⟩
/-- A word is written. -/
theorem TV.setMem (h : TV W v x N) {g o k : Nat} (hp : v.mp = some ⟨g, o, none⟩) (hk : k < v.mn) (n : Int) : TV (W.setCell ⟨g, o + k, none⟩ (.int .i64 n)) v { x with mem := x.mem.set k n } N := by
  have hb : ∀ q, q ≠ g → (W.setCell ⟨g, o + k, none⟩ (.int .i64 n)).heap[q]? = W.heap[q]? := fun q hq => heap_setCell_other W ⟨g, o + k, none⟩ q _ hq
  have ok := h.ok
  have mt := ok.mt _ hp
  have sg : v.S g := .inr (.inr (.inr ⟨_, hp, rfl⟩))
  have hm := h.mem
  rw [hp] at hm
  refine ⟨(hb v.rb fun e => ok.rb (by rw [e]; exact sg)).trans h.run, (hb _ mt.1).trans h.thr, h.doe.same (hb v.dm fun e => ok.dm (by rw [e]; exact sg)), h.reg.same (hb _ mt.2.1), h.own.same (hb _ mt.2.2), h.cod.same (by simp [World.setCell]) fun a e _ => hb _ fun e2 => ok.cd a e (by rw [e2]; exact sg), ?_, by simpa using h.len, h.sm, ok, by simpa [World.setCell] using h.lt⟩
  rw [hp]
  exact hm.set (by rw [h.len]; exact hk) n
/-- A register is written. -/
theorem TV.putReg (h : TV W v x N) {n : Int} {d : Int} (hd : 0 ≤ d) {f : KF} (hf : ∀ q, (f q = none ∧ x.regs q = 0) ∨ f q = some (.int .i64 (x.regs q))) (hk : KM 3 X v.rm (N + 1) (f.upd d (.int .i64 n))) (hg : W.grownBy X (some v.rm)) : TV X v (x.set d n) (N + 1) := by
  have hb : ∀ k, k < W.heap.size → k ≠ v.rm → X.heap[k]? = W.heap[k]? := fun k hk hn => hg.block k hk (by simpa using hn)
  have ok := h.ok
  refine ⟨(hb _ h.lt.rb fun e => ok.rb (.inr (.inl e))).trans h.run, (hb _ h.lt.tb ok.tr).trans h.thr, h.doe.same (hb _ h.lt.dm fun e => ok.dm (.inr (.inl e))), ⟨_, hk, fun q => ?_⟩, (h.own.same (hb _ h.lt.om ok.ro.symm)).mono (Nat.le_succ _), h.cod.same hg.size fun a e hl => hb _ hl fun e2 => ok.cd a e (.inr (.inl e2)), h.mem.same hg.size fun a e hl => hb _ hl (ok.mt a e).2.1.symm, h.len, h.sm, ok, h.lt.mono hg.size⟩
  unfold KF.upd S1.set rset
  rw [if_pos hd]
  by_cases e : q = d
  · simp [e]
  · simpa [e] using hf q
/-- A lock is taken, or given. -/
theorem TV.putOwn (h : TV W v x N) {o : Int → Int} {M : Nat} (hM : N ≤ M) (hk : OM X v.om M o) (hg : W.grownBy X (some v.om)) : TV X v { x with own := o } M := by
  have hb : ∀ k, k < W.heap.size → k ≠ v.om → X.heap[k]? = W.heap[k]? := fun k hk hn => hg.block k hk (by simpa using hn)
  have ok := h.ok
  exact ⟨(hb _ h.lt.rb fun e => ok.rb (.inr (.inr (.inl e)))).trans h.run, (hb _ h.lt.tb ok.to).trans h.thr, h.doe.same (hb _ h.lt.dm fun e => ok.dm (.inr (.inr (.inl e)))), (h.reg.same (hb _ h.lt.rm ok.ro)).mono hM, hk, h.cod.same hg.size fun a e hl => hb _ hl fun e2 => ok.cd a e (.inr (.inr (.inl e2))), h.mem.same hg.size fun a e hl => hb _ hl (ok.mt a e).2.2.symm, h.len, h.sm, ok, h.lt.mono hg.size⟩
end
theorem results_e3 {n : Nat} {X : World} {v0 v1 v2 : Value} {fn : Func} {p q r : Tmp} (hfn : fn.results = #[.cell p 32, .tmp q, .tmp r]) (tmps : Array Value) (u u' : Value) (hp : tmps.getD p undef = .pointer (some ⟨n, 0, none⟩)) (hq : tmps.getD q undef = u) (hr : tmps.getD r undef = u') (h : Eb X n v0 v1 v2) :
    (results fn tmps).run Try.prog X = .ok (.tuple #[.agg #[v0, v1, v2], u, u']) X := by
  have hp' : tmps[p]?.getD undef = .pointer (some ⟨n, 0, none⟩) := by simpa using hp
  have hq' : tmps[q]?.getD undef = u := by simpa using hq
  have hr' : tmps[r]?.getD undef = u' := by simpa using hr
  simp [results, hfn, hp', hq', hr', asAddr, run_eb h]
theorem results_e2 {n : Nat} {X : World} {v0 v1 v2 : Value} {fn : Func} {p q : Tmp} (hfn : fn.results = #[.cell p 32, .tmp q]) (tmps : Array Value) (u : Value) (hp : tmps.getD p undef = .pointer (some ⟨n, 0, none⟩)) (hq : tmps.getD q undef = u) (h : Eb X n v0 v1 v2) :
    (results fn tmps).run Try.prog X = .ok (.tuple #[.agg #[v0, v1, v2], u]) X := by
  have hp' : tmps[p]?.getD undef = .pointer (some ⟨n, 0, none⟩) := by simpa using hp
  have hq' : tmps[q]?.getD undef = u := by simpa using hq
  simp [results, hfn, hp', hq', asAddr, run_eb h]
theorem results_e1 {n : Nat} {X : World} {v0 v1 v2 : Value} {fn : Func} {p : Tmp} (hfn : fn.results = #[.cell p 32]) (tmps : Array Value) (hp : tmps.getD p undef = .pointer (some ⟨n, 0, none⟩)) (h : Eb X n v0 v1 v2) :
    (results fn tmps).run Try.prog X = .ok (.agg #[v0, v1, v2]) X := by
  have hp' : tmps[p]?.getD undef = .pointer (some ⟨n, 0, none⟩) := by simpa using hp
  simp [results, hfn, hp', asAddr, run_eb h]
theorem results_ib {n : Nat} {X : World} {x : Ic} {fn : Func} {p : Tmp} (hfn : fn.results = #[.cell p 42]) (tmps : Array Value) (hp : tmps.getD p undef = .pointer (some ⟨n, 0, none⟩)) (h : Ib X n x) :
    (results fn tmps).run Try.prog X = .ok x.v X := by
  have hp' : tmps[p]?.getD undef = .pointer (some ⟨n, 0, none⟩) := by simpa using hp
  simp [results, hfn, hp', asAddr, h.run]
/-- What a call that turns a thread leaves. -/
def Post (W : World) (v : V) (p : S1 × Rs) (N : Nat) (e : Ending) (w' : World) : Prop := e = .returned p.2.v ∧ TV w' v p.1 N ∧ Ch v.S W w'
end Go.Proofs.Ytnmalhjhfddjpaa
