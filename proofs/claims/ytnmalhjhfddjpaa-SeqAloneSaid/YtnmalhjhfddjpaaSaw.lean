/- The statements' own example comes out. -/
import Derived.Test.YtnmalhjhfddjpaaSml
namespace Go.Proofs.Ytnmalhjhfddjpaa
set_option linter.unusedSimpArgs false
set_option linter.unusedVariables false
open Go Go.RowKit Go.ChangeMaps Go.MapKept Go.WideElems Go.Maps

/-- What a turn comes to, by the codes alone. -/
def nextC (cs : List (List Ic)) (n fuel : Int) (g : G) : G × Rs :=
  if 0 ≤ n then (match cs[n.toNat]?, g.ts[n.toNat]? with
    | some c, some x => if x.over then (g, ⟨0, 0, 0, 2, true⟩) else (g.put n.toNat (turnM n c fuel.toNat (g.s1 x)).1, (turnM n c fuel.toNat (g.s1 x)).2)
    | _, _ => (g, ⟨0, 0, 0, 2, true⟩))
  else (g, ⟨0, 0, 0, 2, true⟩)
theorem nextG_C (ts : List TL) (n fuel : Int) (g : G) : nextG ts n fuel g = nextC (ts.map TL.code) n fuel g := by
  unfold nextG nextC
  split
  · rw [List.getElem?_map]
    cases ts[n.toNat]? with
    | none => cases g.ts[n.toNat]? <;> rfl
    | some t => cases g.ts[n.toNat]? <;> rfl
  · rfl
/-- What a turn leaves, its answer in plain numbers. -/
def NxQ (W : World) (L : Lay) (g : G) (a b c d : Int) (N lo A hi : Nat) (e : Ending) (w' : World) : Prop := e = .returned (.tuple #[.agg #[.int .i64 a, .int .i64 b, .int .i64 c], .int .i64 d]) ∧ RA w' L g N lo A hi ∧ Ch (fun b => lo ≤ b ∧ b < hi) W w'
theorem nx_is {W : World} {L : Lay} {g g' : G} {N lo A hi : Nat} {cs : List (List Ic)} {a b c d : Int} {f : Bool} (h : Hid (RA W L g N lo A hi)) (hcs : Hid (L.ts.map TL.code = cs)) {n fuel : Int} (hl : cs.length < 1000000) (hf : fuel ≤ 1000000) (hM : N + fuel.toNat < 1000000) (e : nextC cs n fuel g = (g', ⟨a, b, c, d, f⟩)) :
    Calls Try.prog 9 #[.pointer (some ⟨L.rb, 0, none⟩), .int .i64 n, .int .i64 fuel] W (NxQ W L g' a b c d (N + fuel.toNat) lo A hi) := by
  have h1 := next_any h n (fuel := fuel) (by have := hcs.out; rw [← this] at hl; simpa using hl) hf hM
  rw [nextG_C, hcs.out, e] at h1
  exact h1
/-- A variable's block that lies behind a run. -/
theorem eb_far {X Y : World} {lo hi m : Nat} {a b c : Value} (hc : Ch (fun b => lo ≤ b ∧ b < hi) X Y) (hE : Eb X m a b c) (hm : hi ≤ m) : Eb Y m a b c := (hc.block m hE.facts.1 (by omega)).trans hE
theorem eb_new {X : World} {m : Nat} {a b c : Value} (hE : Eb X m a b c) (o : Obj) : Eb (X.alloc o) m a b c := (Below.heap_alloc X o m hE.facts.1).trans hE
def cA : List Ic := [⟨0, 0, 0, 0, 0, 5, 0⟩, ⟨11, 0, 0, 0, 0, 0, 0⟩, ⟨13, 0, 0, 0, 0, 0, 0⟩]
def cB : List Ic := [⟨4, 0, 1, -1, 0, 1, 0⟩, ⟨5, 0, 0, -1, 1, 0, 0⟩, ⟨9, 0, 0, 0, 0, 3, 0⟩]
def csW : List (List Ic) := [cA, cB]
def g0W : G := G0 2 [0, 8]
def g1W : G := (nextC csW 0 2 g0W).1
def g2W : G := (nextC csW 0 2 g1W).1
def g4W : G := (nextC csW 1 2 g2W).1
def g5W : G := (nextC csW 1 2 g4W).1
theorem n1W : nextC csW 0 2 g0W = (g1W, ⟨0, 0, 5, 0, true⟩) := by rfl
theorem n2W : nextC csW 0 2 g1W = (g2W, ⟨4, 0, 0, 0, true⟩) := by rfl
theorem n3W : nextC csW 0 2 g2W = (g2W, ⟨0, 0, 0, 2, true⟩) := by rfl
theorem n4W : nextC csW 1 2 g2W = (g4W, ⟨0, 0, 0, 3, true⟩) := by rfl
theorem n5W : nextC csW 1 2 g4W = (g5W, ⟨1, 1, 3, 0, true⟩) := by rfl
theorem o5W : g5W.own 3 = 1 := by rfl
theorem m5W : g5W.mem = [8, 8] := by kernel_rfl
theorem r5W : regG g5W 1 1 = 8 := by kernel_rfl
theorem p5W : placeG g5W 1 = 3 := by rfl
/-- The example's codes, in memory. -/
def SawW (W X : World) (p q : Nat) : Prop := CodesAt X (some ⟨p, 0, none⟩) csW ∧ IntsAt X (some ⟨q, 0, none⟩) [0, 8] ∧ Below W.heap.size W X
theorem code3 {W : World} {g : Nat} {x y z : Ic} (h : W.heap[g]? = some (.cells #[.int .i64 x.k, .int .i64 x.o, .int .i64 x.d, .int .i64 x.a, .int .i64 x.b, .int .i64 x.n, .int .i64 x.t, .int .i64 y.k, .int .i64 y.o, .int .i64 y.d, .int .i64 y.a, .int .i64 y.b, .int .i64 y.n, .int .i64 y.t, .int .i64 z.k, .int .i64 z.o, .int .i64 z.d, .int .i64 z.a, .int .i64 z.b, .int .i64 z.n, .int .i64 z.t] 42 (0, 0))) (hx : Ok6 x) (hy : Ok6 y) (hz : Ok6 z) : CodeAt W (some ⟨g, 0, none⟩) [x, y, z] := fun i u hu => by
  have hl : g < W.heap.size := (Array.getElem?_eq_some_iff.1 h).1
  have hi : i < 3 := by
    have := (List.getElem?_eq_some_iff.1 hu).1
    simpa using this
  have hc : i = 0 ∨ i = 1 ∨ i = 2 := by omega
  rcases hc with rfl | rfl | rfl
  · simp at hu
    subst hu
    refine ⟨g, 0, rfl, hl, ⟨?_, ?_, ?_, ?_, ?_, ?_, ?_⟩, hx⟩ <;> rw [cell_of_row _ _ _ _ _ _ h] <;> rfl
  · simp at hu
    subst hu
    refine ⟨g, 0, rfl, hl, ⟨?_, ?_, ?_, ?_, ?_, ?_, ?_⟩, hy⟩ <;> rw [cell_of_row _ _ _ _ _ _ h] <;> rfl
  · simp at hu
    subst hu
    refine ⟨g, 0, rfl, hl, ⟨?_, ?_, ?_, ?_, ?_, ?_, ?_⟩, hz⟩ <;> rw [cell_of_row _ _ _ _ _ _ h] <;> rfl
theorem saw_below {W X Y : World} {lo hi : Nat} (h : Below W.heap.size W X) (hc : Ch (fun b => lo ≤ b ∧ b < hi) X Y) (hlo : W.heap.size ≤ lo) (o : Obj) : Below W.heap.size W (Y.alloc o) :=
  (h.trans (hc.below h.size fun b hb hs => by omega)).alloc (Nat.le_trans h.size hc.size) o
theorem saw_size {w w' : World} {S : Nat → Prop} {n : Nat} {o : Obj} (h : n ≤ w.heap.size) (hc : Ch S (w.alloc o) w') : n ≤ w'.heap.size := by
  have := hc.size
  simp at this
  omega
theorem saw_len {L : Lay} (h : L.ts.map TL.code = csW) : L.ts.length < 1000000 := by
  have := congrArg List.length h
  simp [csW] at this
  omega
theorem ints_of_mem {W : World} {p : Option Addr} {l : List Int} (h : MemAt W p l) : IntsAt W p l := fun i u hu => by
  obtain ⟨g, o, h1, h2, h3, _⟩ := h i u hu
  exact ⟨g, o, h1, h2, h3⟩
theorem ints2 {W : World} {g : Nat} {x y : Int} (h : W.heap[g]? = some (.cells #[.int .i64 x, .int .i64 y] 2 (0, 0))) : IntsAt W (some ⟨g, 0, none⟩) [x, y] := fun i u hu => by
  have hl : g < W.heap.size := (Array.getElem?_eq_some_iff.1 h).1
  have hi : i < 2 := by
    have := (List.getElem?_eq_some_iff.1 hu).1
    simpa using this
  have h2 : i = 0 ∨ i = 1 := by omega
  rcases h2 with rfl | rfl
  · obtain rfl : x = u := by simpa using hu
    exact ⟨_, 0, rfl, hl, by rw [cell_of_row _ _ _ _ _ _ h]; rfl⟩
  · obtain rfl : y = u := by simpa using hu
    exact ⟨_, 0, rfl, hl, by rw [cell_of_row _ _ _ _ _ _ h]; rfl⟩
theorem saw_dr (X : World) (o : Obj) (j : Nat) : Below X.heap.size X ((X.alloc o).drewN j) := ((Below.refl _ _).alloc (Nat.le_refl _) o).trans ⟨rfl, rfl, rfl, Nat.le_refl _, fun _ _ => rfl⟩
theorem num88 {X : World} {p q : Option Addr} {c d : Nat} (hA : IntsAt X p [8, 8]) (hB : IntsAt X q [8, 8]) : Calls Try.prog 10 #[.slice p 2 c, .slice q 2 d] X fun e w' => e = .returned (.bool true) ∧ ∃ j, w' = X.drewN j := numbers_any (a := [8, 8]) (b := [8, 8]) (Lib.hid rfl) (Lib.hid rfl) (by decide) (by decide) (Lib.hid hA) (Lib.hid hB)
theorem okA : Ok6 ⟨0, 0, 0, 0, 0, 5, 0⟩ ∧ Ok6 ⟨11, 0, 0, 0, 0, 0, 0⟩ ∧ Ok6 ⟨13, 0, 0, 0, 0, 0, 0⟩ := by unfold Ok6 In6; decide
theorem okB : Ok6 ⟨4, 0, 1, -1, 0, 1, 0⟩ ∧ Ok6 ⟨5, 0, 0, -1, 1, 0, 0⟩ ∧ Ok6 ⟨9, 0, 0, 0, 0, 3, 0⟩ := by unfold Ok6 In6; decide
abbrev rowA : Obj := .cells #[.int .i64 0, .int .i64 0, .int .i64 0, .int .i64 0, .int .i64 0, .int .i64 5, .int .i64 0, .int .i64 11, .int .i64 0, .int .i64 0, .int .i64 0, .int .i64 0, .int .i64 0, .int .i64 0, .int .i64 13, .int .i64 0, .int .i64 0, .int .i64 0, .int .i64 0, .int .i64 0, .int .i64 0] 42
abbrev rowB : Obj := .cells #[.int .i64 4, .int .i64 0, .int .i64 1, .int .i64 (-1), .int .i64 0, .int .i64 1, .int .i64 0, .int .i64 5, .int .i64 0, .int .i64 0, .int .i64 (-1), .int .i64 1, .int .i64 0, .int .i64 0, .int .i64 9, .int .i64 0, .int .i64 0, .int .i64 0, .int .i64 0, .int .i64 3, .int .i64 0] 42
abbrev rowC (m : Nat) : Obj := .cells #[.slice (some ⟨m, 0, none⟩) 3 3, .slice (some ⟨m + 1, 0, none⟩) 3 3] 40
abbrev rowD : Obj := .cells #[.int .i64 0, .int .i64 8] 2
theorem saw_new (W : World) : SawW W ((((W.alloc rowA).alloc rowB).alloc (rowC W.heap.size)).alloc rowD) (W.heap.size + 1 + 1) (W.heap.size + 1 + 1 + 1) := by
  have b0 : Below W.heap.size W ((((W.alloc rowA).alloc rowB).alloc (rowC W.heap.size)).alloc rowD) := ((((Below.refl _ _).alloc (Nat.le_refl _) _).alloc (by simp) _).alloc (by simp; omega) _).alloc (by simp; omega) _
  obtain ⟨X, hX⟩ : ∃ X, ((((W.alloc rowA).alloc rowB).alloc (rowC W.heap.size)).alloc rowD) = X := ⟨_, rfl⟩
  have hA : X.heap[W.heap.size]? = some (.cells #[.int .i64 0, .int .i64 0, .int .i64 0, .int .i64 0, .int .i64 0, .int .i64 5, .int .i64 0, .int .i64 11, .int .i64 0, .int .i64 0, .int .i64 0, .int .i64 0, .int .i64 0, .int .i64 0, .int .i64 13, .int .i64 0, .int .i64 0, .int .i64 0, .int .i64 0, .int .i64 0, .int .i64 0] 42 (0, 0)) := by
    rw [← hX]
    exact (Below.heap_alloc _ _ _ (by simp; omega)).trans ((Below.heap_alloc _ _ _ (by simp; omega)).trans ((Below.heap_alloc _ _ _ (by simp)).trans (heap_alloc_new W _)))
  have hB : X.heap[W.heap.size + 1]? = some (.cells #[.int .i64 4, .int .i64 0, .int .i64 1, .int .i64 (-1), .int .i64 0, .int .i64 1, .int .i64 0, .int .i64 5, .int .i64 0, .int .i64 0, .int .i64 (-1), .int .i64 1, .int .i64 0, .int .i64 0, .int .i64 9, .int .i64 0, .int .i64 0, .int .i64 0, .int .i64 0, .int .i64 3, .int .i64 0] 42 (0, 0)) := by
    rw [← hX]
    exact (Below.heap_alloc _ _ _ (by simp)).trans ((Below.heap_alloc _ _ _ (by simp)).trans (heap_alloc2_new W _ _))
  have hC : X.heap[W.heap.size + 1 + 1]? = some (.cells #[.slice (some ⟨W.heap.size, 0, none⟩) 3 3, .slice (some ⟨W.heap.size + 1, 0, none⟩) 3 3] 40 (0, 0)) := by
    rw [← hX]
    have := heap_alloc2_new (W.alloc rowA) rowB (rowC W.heap.size)
    simp only [World.size_alloc] at this
    exact (Below.heap_alloc _ _ _ (by simp)).trans this
  have hD : X.heap[W.heap.size + 1 + 1 + 1]? = some (.cells #[.int .i64 0, .int .i64 8] 2 (0, 0)) := by
    rw [← hX]
    have := heap_alloc2_new ((W.alloc rowA).alloc rowB) (rowC W.heap.size) rowD
    simp only [World.size_alloc] at this
    exact this
  have hs : X.heap.size = W.heap.size + 1 + 1 + 1 + 1 := by rw [← hX]; simp
  rw [hX] at b0 ⊢
  refine ⟨fun i c hc => ?_, fun i u hu => ?_, b0⟩
  · have hi : i < 2 := by
      have := (List.getElem?_eq_some_iff.1 hc).1
      simpa [csW] using this
    have h2 : i = 0 ∨ i = 1 := by omega
    rcases h2 with rfl | rfl
    · obtain rfl : cA = c := by simpa [csW] using hc
      exact ⟨_, 0, rfl, by omega, _, 3, by rw [cell_of_row _ _ _ _ _ _ hC]; rfl, code3 hA okA.1 okA.2.1 okA.2.2⟩
    · obtain rfl : cB = c := by simpa [csW] using hc
      exact ⟨_, 0, rfl, by omega, _, 3, by rw [cell_of_row _ _ _ _ _ _ hC]; rfl, code3 hB okB.1 okB.2.1 okB.2.2⟩
  · have hi : i < 2 := by
      have := (List.getElem?_eq_some_iff.1 hu).1
      simpa using this
    have h2 : i = 0 ∨ i = 1 := by omega
    rcases h2 with rfl | rfl
    · obtain rfl : (0 : Int) = u := by simpa using hu
      exact ⟨_, 0, rfl, by omega, by rw [cell_of_row _ _ _ _ _ _ hD]; rfl⟩
    · obtain rfl : (8 : Int) = u := by simpa using hu
      exact ⟨_, 0, rfl, by omega, by rw [cell_of_row _ _ _ _ _ _ hD]; rfl⟩
set_option maxRecDepth 100000 in
set_option maxHeartbeats 8000000 in
theorem awake_any (W : World) : Calls Try.prog 6 #[] W fun e w' => e = .returned (.bool true) ∧ Below W.heap.size W w' := by
  have HS := Lib.hid (saw_new W)
  have HNW : Hid (∀ X, SawW W X (W.heap.size + 1 + 1) (W.heap.size + 1 + 1 + 1) → Calls Try.prog 8 #[.slice (some ⟨W.heap.size + 1 + 1, 0, none⟩) 2 2, .slice (some ⟨W.heap.size + 1 + 1 + 1, 0, none⟩) 2 2] X (NwP X csW [0, 8])) := Lib.hid fun X hX => new_any rfl (by decide) (Lib.hid hX.1) (Lib.hid (by decide)) rfl (by decide) (Lib.hid hX.2.1)
  go_enter Try.func6, Try.ntmps6
  go_wp2_with (first
    | (go_at_call 8; ((with_reducible refine (HNW.out _ HS.out).mono ?_); rintro e1 w1 hp1; obtain ⟨L, A, rfl, hr1, hcs1, hb1⟩ := hp1; have HCS := Lib.hid hcs1; have hx := HS.out.2.2; have HB1 := Lib.hid (hx.trans (hb1.mono hx.size)); obtain ⟨lo, hlo, hr2⟩ : ∃ lo, W.heap.size ≤ lo ∧ RA w1 L g0W 0 lo A w1.heap.size := ⟨_, hx.size, hr1⟩; have HLO := Lib.hid hlo; have HR1 := Lib.hid hr2; have HN1 : Hid (Calls Try.prog 9 #[.pointer (some ⟨L.rb, 0, none⟩), .int .i64 0, .int .i64 2] w1 (NxQ w1 L g1W 0 0 5 0 2 lo A w1.heap.size)) := Lib.hid (nx_is HR1 HCS (by decide) (by decide) (by decide) n1W); clear hr1 hcs1 hb1 hx hlo hr2))
    | (go_at_call 9; ((with_reducible refine HN1.out.mono ?_); rintro e2 w2 hp; obtain ⟨rfl, hr, hc⟩ := hp; have HR2 : Hid (RA (w2.alloc (.cells #[.int .i64 0, .int .i64 0, .int .i64 5] 32)) L g1W 2 lo A w1.heap.size) := Lib.hid (hr.below ((Below.refl _ _).alloc (Nat.le_refl _) _)); have HB2 : Hid (Below W.heap.size W (w2.alloc (.cells #[.int .i64 0, .int .i64 0, .int .i64 5] 32))) := Lib.hid (saw_below HB1.out hc HLO.out _); have HZ2 : Hid (w1.heap.size ≤ w2.heap.size) := Lib.hid (hc.size); have HE2_2 : Hid (Eb (w2.alloc (.cells #[.int .i64 0, .int .i64 0, .int .i64 5] 32)) w2.heap.size (.int .i64 0) (.int .i64 0) (.int .i64 5)) := Lib.hid (Eb.new rfl _ _ _); have HN2 : Hid (Calls Try.prog 9 #[.pointer (some ⟨L.rb, 0, none⟩), .int .i64 0, .int .i64 2] (w2.alloc (.cells #[.int .i64 0, .int .i64 0, .int .i64 5] 32)) (NxQ (w2.alloc (.cells #[.int .i64 0, .int .i64 0, .int .i64 5] 32)) L g2W 4 0 0 0 4 lo A w1.heap.size)) := Lib.hid (nx_is HR2 HCS (by decide) (by decide) (by decide) n2W); clear hr hc))
    | (go_at_call 9; ((with_reducible refine HN2.out.mono ?_); rintro e3 w3 hp; obtain ⟨rfl, hr, hc⟩ := hp; have HR3 : Hid (RA (w3.alloc (.cells #[.int .i64 4, .int .i64 0, .int .i64 0] 32)) L g2W 4 lo A w1.heap.size) := Lib.hid (hr.below ((Below.refl _ _).alloc (Nat.le_refl _) _)); have HB3 : Hid (Below W.heap.size W (w3.alloc (.cells #[.int .i64 4, .int .i64 0, .int .i64 0] 32))) := Lib.hid (saw_below HB2.out hc HLO.out _); have HZ3 : Hid (w1.heap.size ≤ w3.heap.size) := Lib.hid (saw_size HZ2.out hc); have HE2_3 := Lib.hid (eb_new (eb_far hc HE2_2.out HZ2.out) (.cells #[.int .i64 4, .int .i64 0, .int .i64 0] 32)); have HE3_3 : Hid (Eb (w3.alloc (.cells #[.int .i64 4, .int .i64 0, .int .i64 0] 32)) w3.heap.size (.int .i64 4) (.int .i64 0) (.int .i64 0)) := Lib.hid (Eb.new rfl _ _ _); have HN3 : Hid (Calls Try.prog 9 #[.pointer (some ⟨L.rb, 0, none⟩), .int .i64 0, .int .i64 2] (w3.alloc (.cells #[.int .i64 4, .int .i64 0, .int .i64 0] 32)) (NxQ (w3.alloc (.cells #[.int .i64 4, .int .i64 0, .int .i64 0] 32)) L g2W 0 0 0 2 6 lo A w1.heap.size)) := Lib.hid (nx_is HR3 HCS (by decide) (by decide) (by decide) n3W); clear hr hc))
    | (go_at_call 9; ((with_reducible refine HN3.out.mono ?_); rintro e4 w4 hp; obtain ⟨rfl, hr, hc⟩ := hp; have HR4 : Hid (RA (w4.alloc (.cells #[.int .i64 0, .int .i64 0, .int .i64 0] 32)) L g2W 6 lo A w1.heap.size) := Lib.hid (hr.below ((Below.refl _ _).alloc (Nat.le_refl _) _)); have HB4 : Hid (Below W.heap.size W (w4.alloc (.cells #[.int .i64 0, .int .i64 0, .int .i64 0] 32))) := Lib.hid (saw_below HB3.out hc HLO.out _); have HZ4 : Hid (w1.heap.size ≤ w4.heap.size) := Lib.hid (saw_size HZ3.out hc); have HE2_4 := Lib.hid (eb_new (eb_far hc HE2_3.out HZ2.out) (.cells #[.int .i64 0, .int .i64 0, .int .i64 0] 32)); have HE3_4 := Lib.hid (eb_new (eb_far hc HE3_3.out HZ3.out) (.cells #[.int .i64 0, .int .i64 0, .int .i64 0] 32)); have HE4_4 : Hid (Eb (w4.alloc (.cells #[.int .i64 0, .int .i64 0, .int .i64 0] 32)) w4.heap.size (.int .i64 0) (.int .i64 0) (.int .i64 0)) := Lib.hid (Eb.new rfl _ _ _); have HN4 : Hid (Calls Try.prog 9 #[.pointer (some ⟨L.rb, 0, none⟩), .int .i64 1, .int .i64 2] (w4.alloc (.cells #[.int .i64 0, .int .i64 0, .int .i64 0] 32)) (NxQ (w4.alloc (.cells #[.int .i64 0, .int .i64 0, .int .i64 0] 32)) L g4W 0 0 0 3 8 lo A w1.heap.size)) := Lib.hid (nx_is HR4 HCS (by decide) (by decide) (by decide) n4W); clear hr hc))
    | (go_at_call 9; ((with_reducible refine HN4.out.mono ?_); rintro e5 w5 hp; obtain ⟨rfl, hr, hc⟩ := hp; have HR5 : Hid (RA (w5.alloc (.cells #[.int .i64 0, .int .i64 0, .int .i64 0] 32)) L g4W 8 lo A w1.heap.size) := Lib.hid (hr.below ((Below.refl _ _).alloc (Nat.le_refl _) _)); have HB5 : Hid (Below W.heap.size W (w5.alloc (.cells #[.int .i64 0, .int .i64 0, .int .i64 0] 32))) := Lib.hid (saw_below HB4.out hc HLO.out _); have HZ5 : Hid (w1.heap.size ≤ w5.heap.size) := Lib.hid (saw_size HZ4.out hc); have HE2_5 := Lib.hid (eb_new (eb_far hc HE2_4.out HZ2.out) (.cells #[.int .i64 0, .int .i64 0, .int .i64 0] 32)); have HE3_5 := Lib.hid (eb_new (eb_far hc HE3_4.out HZ3.out) (.cells #[.int .i64 0, .int .i64 0, .int .i64 0] 32)); have HE4_5 := Lib.hid (eb_new (eb_far hc HE4_4.out HZ4.out) (.cells #[.int .i64 0, .int .i64 0, .int .i64 0] 32)); have HE5_5 : Hid (Eb (w5.alloc (.cells #[.int .i64 0, .int .i64 0, .int .i64 0] 32)) w5.heap.size (.int .i64 0) (.int .i64 0) (.int .i64 0)) := Lib.hid (Eb.new rfl _ _ _); have HN5 : Hid (Calls Try.prog 9 #[.pointer (some ⟨L.rb, 0, none⟩), .int .i64 1, .int .i64 2] (w5.alloc (.cells #[.int .i64 0, .int .i64 0, .int .i64 0] 32)) (NxQ (w5.alloc (.cells #[.int .i64 0, .int .i64 0, .int .i64 0] 32)) L g5W 1 1 3 0 10 lo A w1.heap.size)) := Lib.hid (nx_is HR5 HCS (by decide) (by decide) (by decide) n5W); clear hr hc))
    | (go_at_call 9; ((with_reducible refine HN5.out.mono ?_); rintro e6 w6 hp; obtain ⟨rfl, hr, hc⟩ := hp; have HR6 : Hid (RA (w6.alloc (.cells #[.int .i64 1, .int .i64 1, .int .i64 3] 32)) L g5W 10 lo A w1.heap.size) := Lib.hid (hr.below ((Below.refl _ _).alloc (Nat.le_refl _) _)); have HB6 : Hid (Below W.heap.size W (w6.alloc (.cells #[.int .i64 1, .int .i64 1, .int .i64 3] 32))) := Lib.hid (saw_below HB5.out hc HLO.out _); have HZ6 : Hid (w1.heap.size ≤ w6.heap.size) := Lib.hid (saw_size HZ5.out hc); have HE2_6 := Lib.hid (eb_new (eb_far hc HE2_5.out HZ2.out) (.cells #[.int .i64 1, .int .i64 1, .int .i64 3] 32)); have HE3_6 := Lib.hid (eb_new (eb_far hc HE3_5.out HZ3.out) (.cells #[.int .i64 1, .int .i64 1, .int .i64 3] 32)); have HE4_6 := Lib.hid (eb_new (eb_far hc HE4_5.out HZ4.out) (.cells #[.int .i64 1, .int .i64 1, .int .i64 3] 32)); have HE5_6 := Lib.hid (eb_new (eb_far hc HE5_5.out HZ5.out) (.cells #[.int .i64 1, .int .i64 1, .int .i64 3] 32)); have HE6_6 : Hid (Eb (w6.alloc (.cells #[.int .i64 1, .int .i64 1, .int .i64 3] 32)) w6.heap.size (.int .i64 1) (.int .i64 1) (.int .i64 3)) := Lib.hid (Eb.new rfl _ _ _); obtain ⟨la, a0, a1, a2, _⟩ := HE2_6.out.facts; obtain ⟨lb, b0, b1, b2, _⟩ := HE3_6.out.facts; obtain ⟨lc, c0, c1, c2, _⟩ := HE6_6.out.facts; have HOW : Hid (Calls Try.prog 14 #[.pointer (some ⟨L.rb, 0, none⟩), .int .i64 3] (w6.alloc (.cells #[.int .i64 1, .int .i64 1, .int .i64 3] 32)) fun e w' => e = .returned (.int .i64 1) ∧ (w6.alloc (.cells #[.int .i64 1, .int .i64 1, .int .i64 3] 32)) = w') := Lib.hid (by (have := lock_any HR6 (q := 3) (by unfold In6; decide); rw [o5W] at this; exact this)); have HME : Hid (Calls Try.prog 11 #[.pointer (some ⟨L.rb, 0, none⟩)] (w6.alloc (.cells #[.int .i64 1, .int .i64 1, .int .i64 3] 32)) (CpI (w6.alloc (.cells #[.int .i64 1, .int .i64 1, .int .i64 3] 32)) 2 [8, 8])) := Lib.hid (by (have := memory_any HR6; rw [m5W] at this; exact this)); have HRG : Hid (∀ Y, RA Y L g5W 10 lo A w1.heap.size → Calls Try.prog 13 #[.pointer (some ⟨L.rb, 0, none⟩), .int .i64 1, .int .i64 1] Y fun e w' => e = .returned (.int .i64 8) ∧ Y = w') := Lib.hid (fun Y hY => by (have := reg_any (Lib.hid hY) 1 (q := 1) (by unfold In6; decide) (saw_len HCS.out); rw [r5W] at this; exact this)); have HPL : Hid (∀ Y, RA Y L g5W 10 lo A w1.heap.size → Calls Try.prog 12 #[.pointer (some ⟨L.rb, 0, none⟩), .int .i64 1] Y fun e w' => e = .returned (.int .i64 3) ∧ Y = w') := Lib.hid (fun Y hY => by (have := place_any (Lib.hid hY) 1 (saw_len HCS.out); rw [p5W] at this; exact this)); clear hr hc))
    | (go_at_call 14; ((with_reducible refine HOW.out.mono ?_); rintro eo wo ⟨rfl, rfl⟩))
    | (go_at_call 11; ((with_reducible refine HME.out.mono ?_); rintro em w7 hp; obtain ⟨mp, mc, rfl, hm1, hm2, hm3, hb7⟩ := hp; have HB7 := Lib.hid (HB6.out.trans (hb7.mono HB6.out.size)); have HR7 := Lib.hid (HR6.out.below hb7); have HI7 := Lib.hid (ints_of_mem hm2); clear hm1 hm2 hm3 hb7; obtain ⟨la7, lb7, lc7⟩ : True ∧ True ∧ True := ⟨trivial, trivial, trivial⟩))
    | (go_at_call 10; ((with_reducible refine (num88 (HI7.out.stay ((Below.refl _ _).alloc (Nat.le_refl _) _)) (ints2 (heap_alloc_new w7 _))).mono ?_); rintro eu wu ⟨rfl, ju, rfl⟩; have HR8 : Hid (RA ((w7.alloc (.cells #[.int .i64 8, .int .i64 8] 2)).drewN ju) L g5W 10 lo A w1.heap.size) := Lib.hid (HR7.out.below (saw_dr w7 _ ju))))
    | (go_at_call 13; ((with_reducible refine (HRG.out _ HR8.out).mono ?_); rintro er wr ⟨rfl, rfl⟩))
    | (go_at_call 12; ((with_reducible refine (HPL.out _ HR8.out).mono ?_); rintro er wr ⟨rfl, rfl⟩)))
  go_ret
  exact ⟨rfl, HB7.out.trans ((saw_dr w7 _ ju).mono HB7.out.size)⟩
end Go.Proofs.Ytnmalhjhfddjpaa
