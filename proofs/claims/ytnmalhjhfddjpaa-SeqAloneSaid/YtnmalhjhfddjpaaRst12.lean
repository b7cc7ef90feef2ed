/- SeqRests walked. -/
import Derived.Test.YtnmalhjhfddjpaaTwo
namespace Go.Proofs.Ytnmalhjhfddjpaa
set_option linter.unusedSimpArgs false
set_option linter.unusedVariables false
open Go Go.RowKit Go.ChangeMaps Go.MapKept Go.WideElems Go.Maps

/-- A block of four cells: turns ahead, a thread, its fuel, and more of it. -/
def R4b (X : World) (m : Nat) (v0 : Value) (t f q : Int) : Prop := X.heap[m]? = some (.cells #[v0, .int .i64 t, .int .i64 f, .int .i64 q] 26 (0, 0))
theorem R4b.facts {X : World} {m : Nat} {v0 : Value} {t f q : Int} (h : R4b X m v0 t f q) : m < X.heap.size ∧ X.cell? ⟨m, 0, none⟩ = some v0 ∧ X.cell? ⟨m, 1, none⟩ = some (.int .i64 t) ∧ X.cell? ⟨m, 2, none⟩ = some (.int .i64 f) ∧ X.cell? ⟨m, 3, none⟩ = some (.int .i64 q) := by
  refine ⟨(Array.getElem?_eq_some_iff.1 h).1, ?_, ?_, ?_, ?_⟩ <;> rw [cell_of_row _ _ _ _ _ _ h] <;> rfl
theorem R4b.stay {X Y : World} {m : Nat} {v0 : Value} {t f q : Int} (h : R4b X m v0 t f q) (hb : Below X.heap.size X Y) : R4b Y m v0 t f q := (hb.block m h.facts.1).trans h
theorem R4b.two {W X : World} {m : Nat} {v0 : Value} {t f q : Int} (h : R4b W m v0 t f q) (hc : Below W.heap.size W X) : R4b X m v0 t f q := (hc.block m h.facts.1).trans h
abbrev rstObj (v0 : Value) (t f q : Int) : Obj := .cells #[v0, .int .i64 t, .int .i64 f, .int .i64 q] 26
section
variable {W : World} {p q : Option Addr} {n cap m mcap nl cl : Nat} {pl : Option Addr} {t f mo : Int} {cs : List (List Ic)} {l : List Int} {mem : List Int}
set_option maxRecDepth 100000 in
set_option maxHeartbeats 4000000 in
theorem rests_sb (hs : Hid (∀ X, Below W.heap.size W X → Calls Try.prog 7 #[.slice p n cap, .slice q m mcap] X fun e w' => e = .returned (.bool false) ∧ X = w')) :
    Calls Try.prog 3 #[.slice p n cap, .slice q m mcap, .agg #[.slice pl nl cl, .int .i64 t, .int .i64 f, .int .i64 mo]] W fun e w' => e = .returned (.bool true) ∧ Below W.heap.size W w' := by
  go_enter Try.func3, Try.ntmps3
  go_wp2_with (first
    | (go_at_call 6; ((with_reducible refine (awake_any _).mono ?_); rintro ea w1 ⟨rfl, hb1⟩; have HB1 : Hid (Below W.heap.size W w1) := Lib.hid (Below.trans ((Below.refl _ _).alloc (Nat.le_refl _) _) (hb1.mono (by simp))); have HR1 := Lib.hid (R4b.stay (heap_alloc_new W _) hb1); obtain ⟨rl, r0, r1, r2, r3⟩ := HR1.out.facts; clear hb1))
    | (go_at_call 7; ((with_reducible refine (hs.out _ HB1.out).mono ?_); rintro es ws ⟨rfl, rfl⟩)))
  go_ret
  exact ⟨rfl, HB1.out⟩
set_option maxRecDepth 100000 in
set_option maxHeartbeats 4000000 in
theorem rests_0 (hs : Hid (∀ X, Below W.heap.size W X → Calls Try.prog 7 #[.slice p n cap, .slice q m mcap] X fun e w' => e = .returned (.bool true) ∧ X = w')) (h0 : 40 < nl) :
    Calls Try.prog 3 #[.slice p n cap, .slice q m mcap, .agg #[.slice pl nl cl, .int .i64 t, .int .i64 f, .int .i64 mo]] W fun e w' => e = .returned (.bool true) ∧ Below W.heap.size W w' := by
  have d1 : decide ((40 : Int) < (nl : Int)) = true := by simp; omega
  go_enter Try.func3, Try.ntmps3
  go_wp2_with (first
    | (go_at_call 6; ((with_reducible refine (awake_any _).mono ?_); rintro ea w1 ⟨rfl, hb1⟩; have HB1 : Hid (Below W.heap.size W w1) := Lib.hid (Below.trans ((Below.refl _ _).alloc (Nat.le_refl _) _) (hb1.mono (by simp))); have HR1 := Lib.hid (R4b.stay (heap_alloc_new W _) hb1); obtain ⟨rl, r0, r1, r2, r3⟩ := HR1.out.facts; clear hb1))
    | (go_at_call 7; ((with_reducible refine (hs.out _ HB1.out).mono ?_); rintro es ws ⟨rfl, rfl⟩)))
  go_ret
  exact ⟨rfl, HB1.out⟩
set_option maxRecDepth 100000 in
set_option maxHeartbeats 4000000 in
theorem rests_1 (hs : Hid (∀ X, Below W.heap.size W X → Calls Try.prog 7 #[.slice p n cap, .slice q m mcap] X fun e w' => e = .returned (.bool true) ∧ X = w')) (h0 : ¬ 40 < nl) (h1 : f < 0) :
    Calls Try.prog 3 #[.slice p n cap, .slice q m mcap, .agg #[.slice pl nl cl, .int .i64 t, .int .i64 f, .int .i64 mo]] W fun e w' => e = .returned (.bool true) ∧ Below W.heap.size W w' := by
  have d1 : decide ((40 : Int) < (nl : Int)) = false := by simp; omega
  have d2 : decide (f < 0) = true := by simp; omega
  go_enter Try.func3, Try.ntmps3
  go_wp2_with (first
    | (go_at_call 6; ((with_reducible refine (awake_any _).mono ?_); rintro ea w1 ⟨rfl, hb1⟩; have HB1 : Hid (Below W.heap.size W w1) := Lib.hid (Below.trans ((Below.refl _ _).alloc (Nat.le_refl _) _) (hb1.mono (by simp))); have HR1 := Lib.hid (R4b.stay (heap_alloc_new W _) hb1); obtain ⟨rl, r0, r1, r2, r3⟩ := HR1.out.facts; clear hb1))
    | (go_at_call 7; ((with_reducible refine (hs.out _ HB1.out).mono ?_); rintro es ws ⟨rfl, rfl⟩)))
  go_ret
  exact ⟨rfl, HB1.out⟩
set_option maxRecDepth 100000 in
set_option maxHeartbeats 4000000 in
theorem rests_2 (hs : Hid (∀ X, Below W.heap.size W X → Calls Try.prog 7 #[.slice p n cap, .slice q m mcap] X fun e w' => e = .returned (.bool true) ∧ X = w')) (h0 : ¬ 40 < nl) (h1 : ¬ f < 0) (h2 : 100 < f) :
    Calls Try.prog 3 #[.slice p n cap, .slice q m mcap, .agg #[.slice pl nl cl, .int .i64 t, .int .i64 f, .int .i64 mo]] W fun e w' => e = .returned (.bool true) ∧ Below W.heap.size W w' := by
  have d1 : decide ((40 : Int) < (nl : Int)) = false := by simp; omega
  have d2 : decide (f < 0) = false := by simp; omega
  have d3 : decide (100 < f) = true := by simp; omega
  go_enter Try.func3, Try.ntmps3
  go_wp2_with (first
    | (go_at_call 6; ((with_reducible refine (awake_any _).mono ?_); rintro ea w1 ⟨rfl, hb1⟩; have HB1 : Hid (Below W.heap.size W w1) := Lib.hid (Below.trans ((Below.refl _ _).alloc (Nat.le_refl _) _) (hb1.mono (by simp))); have HR1 := Lib.hid (R4b.stay (heap_alloc_new W _) hb1); obtain ⟨rl, r0, r1, r2, r3⟩ := HR1.out.facts; clear hb1))
    | (go_at_call 7; ((with_reducible refine (hs.out _ HB1.out).mono ?_); rintro es ws ⟨rfl, rfl⟩)))
  go_ret
  exact ⟨rfl, HB1.out⟩
set_option maxRecDepth 100000 in
set_option maxHeartbeats 4000000 in
theorem rests_3 (hs : Hid (∀ X, Below W.heap.size W X → Calls Try.prog 7 #[.slice p n cap, .slice q m mcap] X fun e w' => e = .returned (.bool true) ∧ X = w')) (h0 : ¬ 40 < nl) (h1 : ¬ f < 0) (h2 : ¬ 100 < f) (h3 : mo < 0) :
    Calls Try.prog 3 #[.slice p n cap, .slice q m mcap, .agg #[.slice pl nl cl, .int .i64 t, .int .i64 f, .int .i64 mo]] W fun e w' => e = .returned (.bool true) ∧ Below W.heap.size W w' := by
  have d1 : decide ((40 : Int) < (nl : Int)) = false := by simp; omega
  have d2 : decide (f < 0) = false := by simp; omega
  have d3 : decide (100 < f) = false := by simp; omega
  have d4 : decide (mo < 0) = true := by simp; omega
  go_enter Try.func3, Try.ntmps3
  go_wp2_with (first
    | (go_at_call 6; ((with_reducible refine (awake_any _).mono ?_); rintro ea w1 ⟨rfl, hb1⟩; have HB1 : Hid (Below W.heap.size W w1) := Lib.hid (Below.trans ((Below.refl _ _).alloc (Nat.le_refl _) _) (hb1.mono (by simp))); have HR1 := Lib.hid (R4b.stay (heap_alloc_new W _) hb1); obtain ⟨rl, r0, r1, r2, r3⟩ := HR1.out.facts; clear hb1))
    | (go_at_call 7; ((with_reducible refine (hs.out _ HB1.out).mono ?_); rintro es ws ⟨rfl, rfl⟩)))
  go_ret
  exact ⟨rfl, HB1.out⟩
set_option maxRecDepth 100000 in
set_option maxHeartbeats 4000000 in
theorem rests_4 (hs : Hid (∀ X, Below W.heap.size W X → Calls Try.prog 7 #[.slice p n cap, .slice q m mcap] X fun e w' => e = .returned (.bool true) ∧ X = w')) (h0 : ¬ 40 < nl) (h1 : ¬ f < 0) (h2 : ¬ 100 < f) (h3 : ¬ mo < 0) (h4 : 100 < mo) :
    Calls Try.prog 3 #[.slice p n cap, .slice q m mcap, .agg #[.slice pl nl cl, .int .i64 t, .int .i64 f, .int .i64 mo]] W fun e w' => e = .returned (.bool true) ∧ Below W.heap.size W w' := by
  have d1 : decide ((40 : Int) < (nl : Int)) = false := by simp; omega
  have d2 : decide (f < 0) = false := by simp; omega
  have d3 : decide (100 < f) = false := by simp; omega
  have d4 : decide (mo < 0) = false := by simp; omega
  have d5 : decide (100 < mo) = true := by simp; omega
  go_enter Try.func3, Try.ntmps3
  go_wp2_with (first
    | (go_at_call 6; ((with_reducible refine (awake_any _).mono ?_); rintro ea w1 ⟨rfl, hb1⟩; have HB1 : Hid (Below W.heap.size W w1) := Lib.hid (Below.trans ((Below.refl _ _).alloc (Nat.le_refl _) _) (hb1.mono (by simp))); have HR1 := Lib.hid (R4b.stay (heap_alloc_new W _) hb1); obtain ⟨rl, r0, r1, r2, r3⟩ := HR1.out.facts; clear hb1))
    | (go_at_call 7; ((with_reducible refine (hs.out _ HB1.out).mono ?_); rintro es ws ⟨rfl, rfl⟩)))
  go_ret
  exact ⟨rfl, HB1.out⟩
theorem below_undrew {X Y : World} (h : Below X.drew.heap.size X.drew Y) : Below X.heap.size X Y := ⟨h.os, h.tape, h.output, h.size, h.block⟩
theorem num_same {X : World} {p q : Option Addr} {c d : Nat} {a : List Int} (hn : a.length < 1000000) (hA : IntsAt X p a) (hB : IntsAt X q a) : Calls Try.prog 10 #[.slice p a.length c, .slice q a.length d] X fun e w' => e = .returned (.bool true) ∧ ∃ j, w' = X.drewN j := by
  have := numbers_any (W := X) (p := p) (q := q) (c := c) (d := d) (a := a) (b := a) (Lib.hid rfl) (Lib.hid rfl) hn hn (Lib.hid hA) (Lib.hid hB)
  simpa using this
theorem two_new {W w1 w2 : World} {La Lb : Lay} {ca cb : List (List Ic)} {ga gb : G} {A1 A2 : Nat} (h1 : RA w1 La ga 0 W.heap.size A1 w1.heap.size) (c1 : La.ts.map TL.code = ca) (b1 : Below W.heap.size W w1) (h2 : RA w2 Lb gb 0 w1.heap.size A2 w2.heap.size) (c2 : Lb.ts.map TL.code = cb) (b2 : Below w1.heap.size w1 w2) : Two W w2 La Lb ca cb ga gb 0 0 W.heap.size A1 w1.heap.size A2 w2.heap.size := by
  exact ⟨h1.below b2, h2, c1, c2, Nat.le_refl _, b1.trans (b2.mono b1.size)⟩
set_option maxRecDepth 100000 in
set_option maxHeartbeats 8000000 in
theorem rests_in (hs : Hid (∀ X, Below W.heap.size W X → Calls Try.prog 7 #[.slice p n cap, .slice q m mcap] X fun e w' => e = .returned (.bool true) ∧ X = w')) (h0 : nl ≤ 40) (h1 : 0 ≤ f) (h2 : f ≤ 100) (h3 : 0 ≤ mo) (h4 : mo ≤ 100)
    (hn : Hid (∀ X, Below W.heap.size W X → Calls Try.prog 8 #[.slice p n cap, .slice q m mcap] X (NwP X cs mem))) (hcl : cs.length < 1000000) (hl : Hid (l.length = nl)) (hL : Hid (IntsAt W pl l)) :
    Calls Try.prog 3 #[.slice p n cap, .slice q m mcap, .agg #[.slice pl nl cl, .int .i64 t, .int .i64 f, .int .i64 mo]] W fun e w' => e = .returned (.bool true) ∧ Below W.heap.size W w' := by
  have d1 : decide ((40 : Int) < (nl : Int)) = false := by simp; omega
  have d2 : decide (f < 0) = false := by simp; omega
  have d3 : decide (100 < f) = false := by simp; omega
  have d4 : decide (mo < 0) = false := by simp; omega
  have d5 : decide (100 < mo) = false := by simp; omega
  go_enter Try.func3, Try.ntmps3
  go_upto_region 8 with (first
    | (go_at_call 6; ((with_reducible refine (awake_any _).mono ?_); rintro ea w1 ⟨rfl, hb1⟩; have HB1 : Hid (Below W.heap.size W w1) := Lib.hid (Below.trans ((Below.refl _ _).alloc (Nat.le_refl _) _) (hb1.mono (by simp))); have HR1 := Lib.hid (R4b.stay (heap_alloc_new W _) hb1); obtain ⟨rl, r0, r1, r2, r3⟩ := HR1.out.facts; clear hb1))
    | (go_at_call 7; ((with_reducible refine (hs.out _ HB1.out).mono ?_); rintro es ws ⟨rfl, rfl⟩)))
  clear d1 d2 d3 d4 d5
  go_wp2_with (first
    | (go_at_call 8; ((with_reducible refine (hn.out _ HB1.out).mono ?_); rintro e2 w2 hp; obtain ⟨La, A1, rfl, ha, hca, hba⟩ := hp; have HA := Lib.hid (And.intro ha (And.intro hca hba)); have HB2 := Lib.hid (HB1.out.trans (hba.mono HB1.out.size)); clear ha hca hba))
    | (go_at_call 8; ((with_reducible refine (hn.out _ HB2.out).mono ?_); rintro e3 w3 hp; obtain ⟨Lb, A2, rfl, hb, hcb, hbb⟩ := hp; have HTW := Lib.hid (two_new HA.out.1 HA.out.2.1 HA.out.2.2 hb hcb hbb); have HR3 := Lib.hid (HR1.out.two HTW.out.bel); clear hb hcb hbb)))
  go_loopw [11] (fun i wr => ∃ (k N : Nat) (g : G), i = .int .i64 (k : Int) ∧ k ≤ nl ∧ N ≤ 20 * k ∧ Hid (Two w1 wr La Lb cs cs g g N N w1.heap.size A1 w2.heap.size A2 w3.heap.size)) (fun i _ => nl - (intOf i).toNat)
  case atStart => exact ⟨0, 0, _, rfl, Nat.zero_le _, Nat.le_refl _, HTW⟩
  case round =>
    obtain ⟨wo, rfl⟩ : ∃ wo : World, wo = wr := ⟨_, rfl⟩
    obtain ⟨k, N, g, rfl, hk, hN, HT⟩ := hrel
    clear HTW HR3
    have HRo := Lib.hid (HR1.out.two HT.out.bel)
    obtain ⟨bl, b0, b1, b2, b3⟩ := HRo.out.facts
    by_cases hlt : k < nl
    · obtain ⟨u, hu⟩ : ∃ u, l[k]? = some u := ⟨_, List.getElem?_eq_getElem (by rw [hl.out]; exact hlt)⟩
      obtain ⟨gg, o, rfl, hg, hc⟩ := hL.out k u hu
      have hbw := HB1.out.trans (HT.out.bel.mono HB1.out.size)
      have hcw1 := (HB1.out.cell (p := ⟨gg, o + k, none⟩) hg).trans hc
      have hgw1 := Nat.lt_of_lt_of_le hg HB1.out.size
      have hc2 := (hbw.cell (p := ⟨gg, o + k, none⟩) hg).trans hc
      have hgw := Nat.lt_of_lt_of_le hg hbw.size
      have hk2 : (k : Int) < (nl : Int) := by omega
      have hk3 : (0 : Int) ≤ k := by omega
      obtain ⟨g', ⟨a, b, c, d, fi⟩, hx⟩ : ∃ g' r, nextC cs u 20 g = (g', r) := ⟨_, _, rfl⟩
      have HX := Lib.hid hx
      have HNA : Hid (Calls Try.prog 9 #[.pointer (some ⟨La.rb, 0, none⟩), .int .i64 u, .int .i64 20] wo (TwP w1 wo La Lb cs cs g' g (N + 20) N w1.heap.size A1 w2.heap.size A2 w3.heap.size a b c d)) := Lib.hid (tw_a HT hcl (by decide) (by show N + 20 < 1000000; omega) hx)
      clear hc hu hbw hx
      go_wp2_with (first
        | (go_at_call 9; ((with_reducible refine HNA.out.mono ?_); rintro e4 w4 hp; obtain ⟨rfl, ht, hch⟩ := hp; have HT4 := Lib.hid ht; have HR4 := Lib.hid (HR1.out.two ht.bel); obtain ⟨bl4, b04, b14, b24, b34⟩ := HR4.out.facts; have hc4 := (ht.bel.cell (p := ⟨gg, o + k, none⟩) hgw1).trans hcw1; have hgw4 := Nat.lt_of_lt_of_le hgw1 ht.bel.size; have HNB : Hid (Calls Try.prog 9 #[.pointer (some ⟨Lb.rb, 0, none⟩), .int .i64 u, .int .i64 20] w4 (TwP w1 w4 La Lb cs cs g' g' (N + 20) (N + 20) w1.heap.size A1 w2.heap.size A2 w3.heap.size a b c d)) := Lib.hid (tw_b HT4 hcl (by decide) (by show N + 20 < 1000000; omega) HX.out); clear ht hch))
        | (go_at_call 9; ((with_reducible refine HNB.out.mono ?_); rintro e5 w5 hp; obtain ⟨rfl, ht, hch⟩ := hp; have HT5 := Lib.hid ht; clear ht hch)))
      refine ⟨⟨k + 1, N + 20, g', by go_num, by omega, by omega, HT5⟩, ?_⟩
      simp [intOf]
      omega
    · have hN2 : N ≤ 800 := by omega
      have hf1 : f.toNat ≤ 100 := by omega
      have hm1 : mo.toNat ≤ 100 := by omega
      have hfm : IntKind.i64.wrap (f + mo) = f + mo := IntWalk.i64_in _ (by omega)
      obtain ⟨g', ⟨a, b, c, d, fi⟩, hx⟩ : ∃ g' r, nextC cs t f g = (g', r) := ⟨_, _, rfl⟩
      have HNA : Hid (Calls Try.prog 9 #[.pointer (some ⟨La.rb, 0, none⟩), .int .i64 t, .int .i64 f] wo (TwP w1 wo La Lb cs cs g' g (N + f.toNat) N w1.heap.size A1 w2.heap.size A2 w3.heap.size a b c d)) := Lib.hid (tw_a HT hcl (by omega) (by omega) hx)
      by_cases h3d : d = 3
      · subst h3d
        have hrt := rest_tired (n := t) (f := f) (m := mo) (g := g) (cs := cs) (by omega) (by omega) (by rw [hx])
        rw [hx] at hrt
        obtain ⟨g2, ⟨a2, x2, c2, d2, fi2⟩, hx2⟩ : ∃ g2 r, nextC cs t mo g' = (g2, r) := ⟨_, _, rfl⟩
        have hx3 : nextC cs t (f + mo) g = (g2, ⟨a2, x2, c2, d2, fi2⟩) := hrt.symm.trans hx2
        have HX := Lib.hid (And.intro hx2 hx3)
        have HBN := Lib.hid (And.intro hf1 (And.intro hm1 hN2))
        have HFM : Hid (f + mo ≤ 1000000 ∧ N + (f + mo).toNat < 1000000) := Lib.hid ⟨by omega, by omega⟩
        clear hx hx2 hx3 hrt
        go_upto_region 18 with (first
          | (go_at_call 9; ((with_reducible refine HNA.out.mono ?_); rintro e4 w4 hp; obtain ⟨rfl, ht, hch⟩ := hp; have HT4 := Lib.hid (ht.alloc (.cells #[.int .i64 a, .int .i64 b, .int .i64 c] 32)); have HE4 : Hid (Eb (w4.alloc (.cells #[.int .i64 a, .int .i64 b, .int .i64 c] 32)) w4.heap.size (.int .i64 a) (.int .i64 b) (.int .i64 c)) := Lib.hid (Eb.new rfl _ _ _); have HM4 : Hid (w3.heap.size ≤ w4.heap.size) := Lib.hid ht.ord.2.2; have HR4 := Lib.hid (HR1.out.two ht.bel); obtain ⟨bl4, b04, b14, b24, b34⟩ := HR4.out.facts; have HN2 : Hid (Calls Try.prog 9 #[.pointer (some ⟨La.rb, 0, none⟩), .int .i64 t, .int .i64 mo] (w4.alloc (.cells #[.int .i64 a, .int .i64 b, .int .i64 c] 32)) (TwP w1 (w4.alloc (.cells #[.int .i64 a, .int .i64 b, .int .i64 c] 32)) La Lb cs cs g2 g (N + f.toNat + mo.toNat) N w1.heap.size A1 w2.heap.size A2 w3.heap.size a2 x2 c2 d2)) := Lib.hid (tw_a HT4 hcl (by omega) (by have := HBN.out; omega) HX.out.1); clear ht hch))
          | (go_at_call 9; ((with_reducible refine HN2.out.mono ?_); rintro e5 w5 hp; obtain ⟨rfl, ht, hch⟩ := hp; have HE5 := Lib.hid (eb_two hch HE4.out HM4.out); have HT5 := Lib.hid (((ht.set HM4.out 0 (.int .i64 a2)).set HM4.out 1 (.int .i64 x2)).set HM4.out 2 (.int .i64 c2)); have HE5' := Lib.hid (HE5.out.all (.int .i64 a2) (.int .i64 x2) (.int .i64 c2)); obtain ⟨el5, e05, e15, e25, g05, g15, g25⟩ := HE5.out.facts; have HR5 := Lib.hid (HR1.out.two ht.bel); obtain ⟨bl5, b05, b15, b25, b35⟩ := HR5.out.facts; have HNE5 : Hid (W.heap.size ≠ w4.heap.size) := Lib.hid (by (have := HM4.out; have := HT4.out.ord; have := HR1.out.facts.1; have := HT4.out.lo; omega)); have hne5 : W.heap.size ≠ w4.heap.size := HNE5.out; have HN3 : Hid (Calls Try.prog 9 #[.pointer (some ⟨Lb.rb, 0, none⟩), .int .i64 t, .int .i64 (f + mo)] (((w5.setCell ⟨w4.heap.size, 0, none⟩ (.int .i64 a2)).setCell ⟨w4.heap.size, 1, none⟩ (.int .i64 x2)).setCell ⟨w4.heap.size, 2, none⟩ (.int .i64 c2)) (TwP w1 (((w5.setCell ⟨w4.heap.size, 0, none⟩ (.int .i64 a2)).setCell ⟨w4.heap.size, 1, none⟩ (.int .i64 x2)).setCell ⟨w4.heap.size, 2, none⟩ (.int .i64 c2)) La Lb cs cs g2 g2 (N + f.toNat + mo.toNat) (N + (f + mo).toNat) w1.heap.size A1 w2.heap.size A2 w3.heap.size a2 x2 c2 d2)) := Lib.hid (tw_b HT5 hcl HFM.out.1 HFM.out.2 HX.out.2); clear ht hch))
          | (go_at_call 9; ((with_reducible refine HN3.out.mono ?_); rintro e6 w6 hp; obtain ⟨rfl, ht, hch⟩ := hp; have HT6 := Lib.hid (ht.alloc (.cells #[.int .i64 a2, .int .i64 x2, .int .i64 c2] 32)); have HEa := Lib.hid (eb_new (eb_two hch HE5'.out HM4.out) (.cells #[.int .i64 a2, .int .i64 x2, .int .i64 c2] 32)); have HEb : Hid (Eb (w6.alloc (.cells #[.int .i64 a2, .int .i64 x2, .int .i64 c2] 32)) w6.heap.size (.int .i64 a2) (.int .i64 x2) (.int .i64 c2)) := Lib.hid (Eb.new rfl _ _ _); clear ht hch)))
        obtain ⟨m4, hm4⟩ : ∃ m, w4.heap.size = m := ⟨_, rfl⟩
        obtain ⟨m6, hm6⟩ : ∃ m, w6.heap.size = m := ⟨_, rfl⟩
        refine name_world ?_
        intro X6 hX6
        rw [← hX6] at HT6 HEa HEb
        rw [hm4] at HEa ⊢
        rw [hm6] at HEb ⊢
        have HR6 := Lib.hid (HR1.out.two HT6.out.bel)
        have HMM : Hid (g2.mem.length < 1000000) := Lib.hid (by (have := HT6.out.a.len; have := HT6.out.a.sm; omega))
        have HTL : Hid (La.ts.length < 1000000 ∧ Lb.ts.length < 1000000) := Lib.hid ⟨by (have := congrArg List.length HT6.out.ca; simp at this; omega), by (have := congrArg List.length HT6.out.cb; simp at this; omega)⟩
        have HMA : Hid (∀ X, Two w1 X La Lb cs cs g2 g2 (N + f.toNat + mo.toNat) (N + (f + mo).toNat) w1.heap.size A1 w2.heap.size A2 w3.heap.size → Calls Try.prog 11 #[.pointer (some ⟨La.rb, 0, none⟩)] X (CpI X g2.mem.length g2.mem)) := Lib.hid fun X hX => memory_any (Lib.hid hX.a)
        have HMB : Hid (∀ X, Two w1 X La Lb cs cs g2 g2 (N + f.toNat + mo.toNat) (N + (f + mo).toNat) w1.heap.size A1 w2.heap.size A2 w3.heap.size → Calls Try.prog 11 #[.pointer (some ⟨Lb.rb, 0, none⟩)] X (CpI X g2.mem.length g2.mem)) := Lib.hid fun X hX => memory_any (Lib.hid hX.b)
        obtain ⟨pc, hpc⟩ : ∃ pc, placeG g2 t = pc := ⟨_, rfl⟩
        have HPA : Hid (∀ X, Two w1 X La Lb cs cs g2 g2 (N + f.toNat + mo.toNat) (N + (f + mo).toNat) w1.heap.size A1 w2.heap.size A2 w3.heap.size → Calls Try.prog 12 #[.pointer (some ⟨La.rb, 0, none⟩), .int .i64 t] X fun e w' => e = .returned (.int .i64 pc) ∧ X = w') := Lib.hid fun X hX => hpc ▸ place_any (Lib.hid hX.a) t HTL.out.1
        have HPB : Hid (∀ X, Two w1 X La Lb cs cs g2 g2 (N + f.toNat + mo.toNat) (N + (f + mo).toNat) w1.heap.size A1 w2.heap.size A2 w3.heap.size → Calls Try.prog 12 #[.pointer (some ⟨Lb.rb, 0, none⟩), .int .i64 t] X fun e w' => e = .returned (.int .i64 pc) ∧ X = w') := Lib.hid fun X hX => hpc ▸ place_any (Lib.hid hX.b) t HTL.out.2
        have HT6d := Lib.hid HT6.out.drew
        have HEM : Hid (∀ Y, Below X6.heap.size X6 Y → Y.cell? ⟨m4, 0, none⟩ = some (.int .i64 a2) ∧ Y.cell? ⟨m4, 1, none⟩ = some (.int .i64 x2) ∧ Y.cell? ⟨m4, 2, none⟩ = some (.int .i64 c2) ∧ Y.cell? ⟨m6, 0, none⟩ = some (.int .i64 a2) ∧ Y.cell? ⟨m6, 1, none⟩ = some (.int .i64 x2) ∧ Y.cell? ⟨m6, 2, none⟩ = some (.int .i64 c2) ∧ Y.cell? ⟨W.heap.size, 1, none⟩ = some (.int .i64 t)) := Lib.hid fun Y hY => by
          obtain ⟨_, a0, a1, a2, _⟩ := (eb_stay HEa.out hY).facts
          obtain ⟨_, b0, b1, b2, _⟩ := (eb_stay HEb.out hY).facts
          obtain ⟨_, r0, r1, r2, _⟩ := (HR6.out.stay hY).facts
          exact ⟨a0, a1, a2, b0, b1, b2, r1⟩
        have S6 := HEM.out X6 (Below.refl _ _)
        clear hX6 hm4 hm6 hpc bl b0 b1 b2 b3 HX HBN HFM
        go_region_held3 (fun w' => w'.cell? ⟨m4, 0, none⟩ = some (.int .i64 a2) ∧ w'.cell? ⟨m4, 1, none⟩ = some (.int .i64 x2) ∧ w'.cell? ⟨m4, 2, none⟩ = some (.int .i64 c2) ∧ w'.cell? ⟨m6, 0, none⟩ = some (.int .i64 a2) ∧ w'.cell? ⟨m6, 1, none⟩ = some (.int .i64 x2) ∧ w'.cell? ⟨m6, 2, none⟩ = some (.int .i64 c2) ∧ w'.cell? ⟨W.heap.size, 1, none⟩ = some (.int .i64 t))
          (first | exact S6 | exact S7 | exact S8)
          (first
            | (go_at_call 11; ((with_reducible refine (HMA.out _ HT6d.out).mono ?_); rintro em w7 hp; obtain ⟨p7, c7', rfl, y1, y2, y3, hb7⟩ := hp; have HT7 := Lib.hid (HT6d.out.stay hb7); have HI7 := Lib.hid (ints_of_mem y2); have HB7 : Hid (Below X6.heap.size X6 w7) := Lib.hid (below_undrew hb7); have S7 := HEM.out w7 HB7.out; clear y1 y2 y3 hb7))
            | (go_at_call 11; ((with_reducible refine (HMB.out _ HT7.out).mono ?_); rintro em w8 hp; obtain ⟨p8, c8, rfl, y1, y2, y3, hb8⟩ := hp; have HT8 := Lib.hid (HT7.out.stay hb8); have HI8 := Lib.hid (ints_of_mem y2); have HI78 := Lib.hid (HI7.out.stay hb8); have HB8 : Hid (Below X6.heap.size X6 w8) := Lib.hid (HB7.out.trans (hb8.mono HB7.out.size)); have S8 := HEM.out w8 HB8.out; clear y1 y2 y3 hb8))
            | (go_at_call 10; ((with_reducible refine (num_same HMM.out HI78.out HI8.out).mono ?_); rintro eu wu ⟨rfl, j, rfl⟩; have HT9 := Lib.hid (HT8.out.drewN j)))
            | (go_at_call 12; ((with_reducible refine (HPA.out _ HT9.out).mono ?_); rintro ep wp ⟨rfl, rfl⟩))
            | (go_at_call 12; ((with_reducible refine (HPB.out _ HT9.out).mono ?_); rintro ep wp ⟨rfl, rfl⟩)))
        all_goals
          go_wp2_with (fail)
          go_ret
          exact ⟨rfl, HB1.out.trans (HT9.out.bel.mono HB1.out.size)⟩
      · have hrt := rest_not (n := t) (f := f) (m := mo) (g := g) (cs := cs) (by omega) (by omega) (by rw [hx]; exact h3d)
        rw [hx] at hrt
        have HX := Lib.hid hrt
        have hd3 : (d == 3) = false := by simpa using h3d
        have HFM : Hid (f + mo ≤ 1000000 ∧ N + (f + mo).toNat < 1000000) := Lib.hid ⟨by omega, by omega⟩
        clear hx hrt h3d
        go_upto_region 20 with (first
          | (go_at_call 9; ((with_reducible refine HNA.out.mono ?_); rintro e4 w4 hp; obtain ⟨rfl, ht, hch⟩ := hp; have HT4 := Lib.hid (ht.alloc (.cells #[.int .i64 a, .int .i64 b, .int .i64 c] 32)); have HE4 : Hid (Eb (w4.alloc (.cells #[.int .i64 a, .int .i64 b, .int .i64 c] 32)) w4.heap.size (.int .i64 a) (.int .i64 b) (.int .i64 c)) := Lib.hid (Eb.new rfl _ _ _); have HM4 : Hid (w3.heap.size ≤ w4.heap.size) := Lib.hid ht.ord.2.2; have HR4 := Lib.hid (HR1.out.two ht.bel); obtain ⟨bl4, b04, b14, b24, b34⟩ := HR4.out.facts; have HN3 : Hid (Calls Try.prog 9 #[.pointer (some ⟨Lb.rb, 0, none⟩), .int .i64 t, .int .i64 (f + mo)] (w4.alloc (.cells #[.int .i64 a, .int .i64 b, .int .i64 c] 32)) (TwP w1 (w4.alloc (.cells #[.int .i64 a, .int .i64 b, .int .i64 c] 32)) La Lb cs cs g' g' (N + f.toNat) (N + (f + mo).toNat) w1.heap.size A1 w2.heap.size A2 w3.heap.size a b c d)) := Lib.hid (tw_b HT4 hcl HFM.out.1 HFM.out.2 HX.out); clear ht hch))
          | (go_at_call 9; ((with_reducible refine HN3.out.mono ?_); rintro e6 w6 hp; obtain ⟨rfl, ht, hch⟩ := hp; have HT6 := Lib.hid (ht.alloc (.cells #[.int .i64 a, .int .i64 b, .int .i64 c] 32)); have HEa := Lib.hid (eb_new (eb_two hch HE4.out HM4.out) (.cells #[.int .i64 a, .int .i64 b, .int .i64 c] 32)); have HEb : Hid (Eb (w6.alloc (.cells #[.int .i64 a, .int .i64 b, .int .i64 c] 32)) w6.heap.size (.int .i64 a) (.int .i64 b) (.int .i64 c)) := Lib.hid (Eb.new rfl _ _ _); clear ht hch)))
        obtain ⟨m4, hm4⟩ : ∃ m, w4.heap.size = m := ⟨_, rfl⟩
        obtain ⟨m6, hm6⟩ : ∃ m, w6.heap.size = m := ⟨_, rfl⟩
        refine name_world ?_
        intro X6 hX6
        rw [← hX6] at HT6 HEa HEb
        rw [hm4] at HEa ⊢
        rw [hm6] at HEb ⊢
        have HMM : Hid (g'.mem.length < 1000000) := Lib.hid (by (have := HT6.out.a.len; have := HT6.out.a.sm; omega))
        have HMA : Hid (∀ X, Two w1 X La Lb cs cs g' g' (N + f.toNat) (N + (f + mo).toNat) w1.heap.size A1 w2.heap.size A2 w3.heap.size → Calls Try.prog 11 #[.pointer (some ⟨La.rb, 0, none⟩)] X (CpI X g'.mem.length g'.mem)) := Lib.hid fun X hX => memory_any (Lib.hid hX.a)
        have HMB : Hid (∀ X, Two w1 X La Lb cs cs g' g' (N + f.toNat) (N + (f + mo).toNat) w1.heap.size A1 w2.heap.size A2 w3.heap.size → Calls Try.prog 11 #[.pointer (some ⟨Lb.rb, 0, none⟩)] X (CpI X g'.mem.length g'.mem)) := Lib.hid fun X hX => memory_any (Lib.hid hX.b)
        obtain ⟨_, a0, a1, a2, _⟩ := HEa.out.facts
        obtain ⟨_, b0', b1', b2', _⟩ := HEb.out.facts
        clear hX6 hm4 hm6 bl b0 b1 b2 b3 HX HFM
        go_wp2_with (first
            | (go_at_call 11; ((with_reducible refine (HMA.out _ HT6.out).mono ?_); rintro em w7 hp; obtain ⟨p7, c7', rfl, y1, y2, y3, hb7⟩ := hp; have HT7 := Lib.hid (HT6.out.stay hb7); have HI7 := Lib.hid (ints_of_mem y2); clear y1 y2 y3 hb7))
            | (go_at_call 11; ((with_reducible refine (HMB.out _ HT7.out).mono ?_); rintro em w8 hp; obtain ⟨p8, c8, rfl, y1, y2, y3, hb8⟩ := hp; have HT8 := Lib.hid (HT7.out.stay hb8); have HI8 := Lib.hid (ints_of_mem y2); have HI78 := Lib.hid (HI7.out.stay hb8); clear y1 y2 y3 hb8))
            | (go_at_call 10; ((with_reducible refine (num_same HMM.out HI78.out HI8.out).mono ?_); rintro eu wu ⟨rfl, j, rfl⟩; have HT9 := Lib.hid (HT8.out.drewN j))))
        go_ret
        exact ⟨rfl, HB1.out.trans (HT9.out.bel.mono HB1.out.size)⟩
end
end Go.Proofs.Ytnmalhjhfddjpaa
