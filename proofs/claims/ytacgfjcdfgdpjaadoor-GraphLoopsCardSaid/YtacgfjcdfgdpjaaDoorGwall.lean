/- Two answers of one meaning are the same; the document's own Dominates, loop, Loops and Depth. -/
import Derived.Test.YtacgfjcdfgdpjaaDoorGwp
import Derived.Deep.QuietTactic
import Derived.BigQuiet
namespace Go.Proofs.YtacgfjcdfgdpjaaDoor
set_option linter.unusedSimpArgs false
set_option linter.unusedVariables false
section
open Go Go.RowKit Gm

theorem bools_same {W : World} {v u : Value} {n : Nat} {T : Nat → Prop} (h : Hid (BR W v n T)) (k : Hid (BR W u n T)) (hn : n ≤ 1000000) : Calls Tryd.prog 8 #[v, u] W fun e w' => e = .returned (.bool true) ∧ Below W.heap.size W w' := by
  obtain ⟨q, cq, g, rfl, h1, h2⟩ := h.out
  obtain ⟨q', cq', g', rfl, k1, k2⟩ := k.out
  refine (bools_any (Lib.hid h1) (Lib.hid k1) hn).mono ?_
  rintro e w' ⟨b, rfl, hb, hbl⟩
  exact ⟨by rw [hb.2 ⟨rfl, fun i hi => Bool.eq_iff_iff.2 ((h2 i hi).trans (k2 i hi).symm)⟩], hbl⟩
theorem ints_same {W : World} {v u : Value} {l : List Nat} (h : Hid (RowIn W v l)) (k : Hid (RowIn W u l)) (hn : l.length ≤ 1000000) : Calls Tryd.prog 18 #[v, u] W fun e w' => e = .returned (.bool true) ∧ Below W.heap.size W w' := by
  obtain ⟨q, cq, rfl, h1⟩ := h.out
  obtain ⟨q', cq', rfl, k1⟩ := k.out
  refine (ints_any (Lib.hid h1) (Lib.hid k1) hn).mono ?_
  rintro e w' ⟨b, rfl, hb, hbl⟩
  exact ⟨by rw [hb.2 rfl], hbl⟩
theorem rows_same {W : World} {v u : Value} {m : Nat} {T : Nat → Nat → Prop} (h : Hid (Rows2 W v m fun X i u => NR X u (T i))) (k : Hid (Rows2 W u m fun X i u => NR X u (T i))) (hm : m ≤ 1000000) : Calls Tryd.prog 11 #[v, u] W fun e w' => e = .returned (.bool true) ∧ Below W.heap.size W w' := by
  obtain ⟨q, cq, S, rfl, h1, h2⟩ := h.out
  obtain ⟨q', cq', S', rfl, k1, k2⟩ := k.out
  have hA : ∀ i, ∃ l, i < m → RowIn W (S i) l ∧ l.length ≤ 1000000 ∧ l.Pairwise (fun x y => x < y) ∧ ∀ t, t ∈ l ↔ T i t := fun i => by
    by_cases hi : i < m
    · obtain ⟨l, hl⟩ := h2 i hi
      exact ⟨l, fun _ => hl⟩
    · exact ⟨[], fun h => absurd h hi⟩
  have hB : ∀ i, ∃ l, i < m → RowIn W (S' i) l ∧ l.length ≤ 1000000 ∧ l.Pairwise (fun x y => x < y) ∧ ∀ t, t ∈ l ↔ T i t := fun i => by
    by_cases hi : i < m
    · obtain ⟨l, hl⟩ := k2 i hi
      exact ⟨l, fun _ => hl⟩
    · exact ⟨[], fun h => absurd h hi⟩
  obtain ⟨A, hA⟩ := Classical.axiomOfChoice hA
  obtain ⟨B, hB⟩ := Classical.axiomOfChoice hB
  refine (rowsS_any (A := A) (B := B) (Lib.hid h1) (Lib.hid k1) (Lib.hid fun i hi => ⟨(hA i hi).1, (hA i hi).2.1⟩) (Lib.hid fun i hi => (hB i hi).1) hm).mono ?_
  rintro e w' ⟨b, rfl, hb, hbl⟩
  exact ⟨by rw [hb.2 ⟨rfl, fun i hi => up_same (hA i hi).2.2.1 (hB i hi).2.2.1 fun t => ((hA i hi).2.2.2 t).trans ((hB i hi).2.2.2 t).symm⟩], hbl⟩
theorem Rows2.nr {W X : World} {v : Value} {m : Nat} {T : Nat → Nat → Prop} (h : Rows2 W v m fun X i u => NR X u (T i)) (hb : Below W.heap.size W X) : Rows2 X v m fun X i u => NR X u (T i) := h.stay hb fun _ _ k => k.stay hb
theorem Rows2.br {W X : World} {v : Value} {m n : Nat} {T : Nat → Nat → Prop} (h : Rows2 W v m fun X i u => BR X u n (T i)) (hb : Below W.heap.size W X) : Rows2 X v m fun X i u => BR X u n (T i) := h.stay hb fun _ _ k => k.stay hb
end
section
open Go Go.RowKit Gm Classical

theorem bool_is {b : Bool} {P : Prop} (h : b = true ↔ P) : (P → b = true) ∧ (¬ P → b = false) := ⟨h.2, fun n => Bool.eq_false_iff.2 fun e => n (h.1 e)⟩
/-- A table of truths in memory: each row of its own. -/
structure Dt (W V X : World) (L b n : Nat) (r : Nat → Nat) (t : Nat → Nat → Bool) : Prop where
  bel : Below W.heap.size W X
  ch : Ch (fun z => L ≤ z ∧ z < V.heap.size) V X
  fv : FV 25 X b n (fun i => .slice (some ⟨r i, 0, none⟩) n n)
  row : ∀ i, i < n → FV 4 X (r i) n (bv (t i))
  inj : ∀ i j, i < n → j < n → r i = r j → i = j
  lo : ∀ i, i < n → L ≤ r i ∧ r i < V.heap.size
  hL : W.heap.size ≤ L
  g : W.heap.size ≤ b ∧ b < V.heap.size
section
variable {W V X Y : World} {L b n : Nat} {r : Nat → Nat} {t t' : Nat → Nat → Bool}
theorem Dt.like (h : Dt W V X L b n r t) (e : Y.heap = X.heap) (e1 : Y.os = X.os) (e2 : Y.tape = X.tape) (e3 : Y.output = X.output) : Dt W V Y L b n r t :=
  ⟨below_like h.bel e e1 e2 e3, h.ch.like e e1 e2 e3, h.fv.of_heap (by rw [e]), fun i hi => (h.row i hi).of_heap (by rw [e]), h.inj, h.lo, h.hL, h.g⟩
theorem Dt.stay (h : Dt W V X L b n r t) (hb : Below X.heap.size X Y) : Dt W V Y L b n r t :=
  ⟨h.bel.trans (hb.mono h.bel.size), h.ch.stepB hb, h.fv.stay hb, fun i hi => (h.row i hi).stay hb, h.inj, h.lo, h.hL, h.g⟩
theorem Dt.set (h : Dt W V X L b n r t) {i : Nat} (hi : i < n) (j : Nat) (x : Bool) : Dt W V (X.setCell ⟨r i, j, none⟩ (.bool x)) L b n r (upd t i (upd (t i) j x)) := by
  have hlo := h.lo i hi
  refine ⟨h.bel.setCell (p := ⟨r i, j, none⟩) (Nat.le_trans h.hL hlo.1) _, h.ch.set (b := r i) (.inl hlo) j _, h.fv.setO (two_types h.fv (h.row i hi) (by decide)) _ _, fun k hk => ?_, h.inj, h.lo, h.hL, h.g⟩
  by_cases e : k = i
  · subst e
    rw [upd_at]
    exact bv_upd (t k) j x ▸ (h.row k hk).set j (.bool x)
  · rw [upd_of e]
    exact (h.row k hk).setO (fun e2 => e (h.inj k i hk hi e2)) _ _
theorem Dt.to (h : Dt W V X L b n r t) (e : ∀ i j, i < n → j < n → t i j = t' i j) : Dt W V X L b n r t' :=
  ⟨h.bel, h.ch, h.fv, fun i hi => (h.row i hi).to fun j hj => by simp only [bv, e i j hi hj], h.inj, h.lo, h.hL, h.g⟩
end
set_option maxRecDepth 100000 in
set_option maxHeartbeats 8000000 in
theorem rdomin_c {W : World} {p : Option Addr} {cap : Nat} {c : List Ic} (hc : Hid (CodeAt W p c)) (hn : c.length ≤ 1000000) : Calls Tryd.prog 15 #[.slice p c.length cap] W fun e w' => ∃ v, e = .returned v ∧ Rows2 w' v c.length (fun X i u => BR X u c.length fun j => Dmp c j i) ∧ Below W.heap.size W w' := by
  have hmk := make_bb c.length (by omega)
  have hmk2 := make_b c.length (by omega)
  go_enter Tryd.func15, Tryd.ntmps15
  go_upto_region 2 with (fail)
  refine name_world ?_
  intro V0 hV0
  obtain ⟨b, hb⟩ : ∃ b, W.heap.size = b := ⟨_, rfl⟩
  have HV0 : Hid (Below W.heap.size W V0 ∧ FV 25 V0 b c.length (fun _ => .slice none 0 0)) := Lib.hid (by
    rw [hV0, ← hb]
    exact ⟨below1 W _, FV.new rfl (by simp)⟩)
  have HB := Lib.hid hb
  try rw [hb]
  clear hV0 hb hmk
  have HC0 : Hid (CodeAt V0 p c) := Lib.hid (hc.out.stay HV0.out.1)
  go_upto_region 3 with (go_at_call 10; ((with_reducible refine (rreach_c HC0 hn).mono ?_); rintro e1 V1 ⟨v, rfl, hbr, hbl⟩; obtain ⟨qr, cr, g, rfl, hr, hrr⟩ := hbr; have HV1 := Lib.hid (And.intro hr (And.intro hrr hbl)); clear hr hrr hbl))
  have HF1 := Lib.hid (HV0.out.2.stay HV1.out.2.2)
  have HB1 : Hid (Below W.heap.size W V1) := Lib.hid (HV0.out.1.trans (HV1.out.2.2.mono HV0.out.1.size))
  have hb1 := HF1.out.lt
  have hb0 : b < V0.heap.size := HV0.out.2.lt
  have hz1 := HV1.out.2.2.size
  go_wp2
  go_loopw [5] (fun a wr => ∃ (i : Nat) (F : Nat → Value) (r : Nat → Nat), a = .int .i64 i ∧ i ≤ c.length ∧ Hid (Ch (fun z => z = b) V1 wr ∧ FV 25 wr b c.length F ∧ ∀ j, j < i → F j = .slice (some ⟨r j, 0, none⟩) c.length c.length ∧ V1.heap.size ≤ r j ∧ r j < wr.heap.size ∧ FV 4 wr (r j) c.length (bv fun _ => false) ∧ ∀ k, k < j → r k ≠ r j)) (fun a _ => c.length - (intOf a).toNat)
  case atStart => exact ⟨0, _, fun _ => 0, rfl, Nat.zero_le _, Lib.hid ⟨Ch.refl _ _, HF1.out, fun j h => absurd h (Nat.not_lt_zero _)⟩⟩
  case round =>
    obtain ⟨wo, rfl⟩ : ∃ wo : World, wo = wr := ⟨_, rfl⟩
    obtain ⟨i, F, r, rfl, hi, HR⟩ := hrel
    by_cases hlt : i < c.length
    · have ib := HR.out.2.1.cell hlt
      have fb := HR.out.2.1.frozen i
      have lb := HR.out.2.1.lt
      have hsz := HR.out.1.size
      have HA : Hid (Ch (fun z => z = b) V1 ((wo.setCell ⟨b, i, none⟩ (.slice (some ⟨wo.heap.size, 0, none⟩) c.length c.length)).alloc (.cells (rw_ c.length fun _ => .bool false).toArray 4)) ∧ FV 25 ((wo.setCell ⟨b, i, none⟩ (.slice (some ⟨wo.heap.size, 0, none⟩) c.length c.length)).alloc (.cells (rw_ c.length fun _ => .bool false).toArray 4)) b c.length (upd F i (.slice (some ⟨wo.heap.size, 0, none⟩) c.length c.length)) ∧ ∀ j, j < i + 1 → upd F i (.slice (some ⟨wo.heap.size, 0, none⟩) c.length c.length) j = .slice (some ⟨upd r i wo.heap.size j, 0, none⟩) c.length c.length ∧ V1.heap.size ≤ upd r i wo.heap.size j ∧ upd r i wo.heap.size j < ((wo.setCell ⟨b, i, none⟩ (.slice (some ⟨wo.heap.size, 0, none⟩) c.length c.length)).alloc (.cells (rw_ c.length fun _ => .bool false).toArray 4)).heap.size ∧ FV 4 ((wo.setCell ⟨b, i, none⟩ (.slice (some ⟨wo.heap.size, 0, none⟩) c.length c.length)).alloc (.cells (rw_ c.length fun _ => .bool false).toArray 4)) (upd r i wo.heap.size j) c.length (bv fun _ => false) ∧ ∀ k, k < j → upd r i wo.heap.size k ≠ upd r i wo.heap.size j) := Lib.hid (by
        have hs : ((wo.setCell ⟨b, i, none⟩ (.slice (some ⟨wo.heap.size, 0, none⟩) c.length c.length)).alloc (.cells (rw_ c.length fun _ => .bool false).toArray 4)).heap.size = wo.heap.size + 1 := by simp [World.setCell]
        refine ⟨(HR.out.1.set (.inl rfl) i _).alloc _, (HR.out.2.1.set i _).alloc _, fun j hj => ?_⟩
        rw [hs]
        by_cases e : j = i
        · subst e
          rw [upd_at, upd_at]
          refine ⟨rfl, hsz, by omega, FV.new (by simp [World.setCell]) (by simp; rfl), fun k hk => ?_⟩
          rw [upd_of (by omega)]
          have := (HR.out.2.2 k hk).2.2.1
          omega
        · rw [upd_of e, upd_of e]
          obtain ⟨e1, e2, e3, e4, e5⟩ := HR.out.2.2 j (by omega)
          refine ⟨e1, e2, by omega, (e4.setO (by omega) _ _).alloc _, fun k hk => ?_⟩
          rw [upd_of (by omega)]
          exact e5 k hk)
      go_wp2
      go_roundw
      case rel => exact ⟨i + 1, upd F i (.slice (some ⟨wo.heap.size, 0, none⟩) c.length c.length), upd r i wo.heap.size, by go_num, by omega, HA⟩
      case measure => (simp [intOf]; try omega)
    · obtain hic : i = c.length := by omega
      subst hic
      have HD : Hid (Dt W wo wo V1.heap.size b c.length r (fun i j => decide (j < 0 ∧ Dmp c j i))) := Lib.hid (by
        have hs := HR.out.1.size
        refine ⟨HB1.out.trans (HR.out.1.below HB1.out.size fun z hz e => by have := HB.out; omega), Ch.refl _ _, HR.out.2.1.to fun i hi => (HR.out.2.2 i hi).1, fun i hi => (HR.out.2.2 i hi).2.2.2.1.to fun j _ => by simp [bv], fun i j hi hj e => ?_, fun i hi => ⟨(HR.out.2.2 i hi).2.1, (HR.out.2.2 i hi).2.2.1⟩, HB1.out.size, ⟨by rw [HB.out]; exact Nat.le_refl _, by omega⟩⟩
        rcases Nat.lt_trichotomy i j with h | h | h
        · exact absurd e ((HR.out.2.2 j hj).2.2.2.2 i h)
        · exact h
        · exact absurd e.symm ((HR.out.2.2 i hi).2.2.2.2 j h))
      have HRV : Hid (∀ X, Ch (fun z => V1.heap.size ≤ z ∧ z < wo.heap.size) wo X → ∀ i, i < c.length → ∃ a o, qr = some ⟨a, o, none⟩ ∧ X.cell? ⟨a, o + i, none⟩ = some (.bool (g i))) := Lib.hid fun X hX i hi => by
        obtain ⟨a, o, e, hl, h1⟩ := HV1.out.1 i hi
        refine ⟨a, o, e, ?_⟩
        have hne : a ≠ b := fun e2 => by
          rw [e2, cell_of_row _ _ _ _ _ _ HF1.out] at h1
          by_cases h : o + i < c.length
          · rw [List.getElem?_toArray, rw_get _ h] at h1
            simp [bv] at h1
          · rw [List.getElem?_toArray, rw_none _ (by omega)] at h1
            cases h1
        exact (hX.cell (Nat.lt_of_lt_of_le hl HR.out.1.size) (by omega)).trans ((HR.out.1.cell hl hne).trans h1)
      clear HR
      obtain ⟨V, rfl⟩ : ∃ V, V = wo := ⟨_, rfl⟩
      go_wp2
      go_loopw [6] (fun a wr => ∃ d : Nat, a = .int .i64 d ∧ d ≤ c.length ∧ Hid (Dt W V wr V1.heap.size b c.length r (fun i j => decide (j < d ∧ Dmp c j i)))) (fun a _ => c.length - (intOf a).toNat)
      case atStart => exact ⟨0, rfl, Nat.zero_le _, HD⟩
      case round =>
        clear HD
        obtain ⟨wo, rfl⟩ : ∃ wo : World, wo = wr := ⟨_, rfl⟩
        obtain ⟨d, rfl, hd, HR⟩ := hrel
        by_cases hdn : d < c.length
        · have h0 : Calls Tryd.prog 22 #[.slice p c.length cap, .int .i64 0, .int .i64 (d : Int)] wo fun e w' => ∃ v, e = .returned v ∧ BR w' v c.length (fun z => 0 < c.length ∧ ((0 : Nat) : Int) ≠ (d : Int) ∧ Gm.Way (Ed c) (fun z => (z : Int) ≠ (d : Int)) 0 z) ∧ (∀ a k q, v = .slice (some a) k q → wo.heap.size ≤ a.block) ∧ Below wo.heap.size wo w' := without_any (cap := cap) (Lib.hid (hc.out.stay HR.out.bel)) hn 0 (by omega) (d : Int)
          have H0 := Lib.hid h0
          clear h0
          go_upto_region 11 with (go_at_call 22; ((with_reducible refine H0.out.mono ?_); rintro e5 w5 ⟨v5, rfl, ⟨q5, c5, k5, rfl, hr5, ht5⟩, hf5, hb5⟩; have H5 := Lib.hid (And.intro hr5 (And.intro hf5 hb5)); have HT : Hid (∀ z, z < c.length → (k5 z = true ↔ Gm.Way (Ed c) (fun z => z ≠ d) 0 z)) := Lib.hid (fun z hz => (ht5 z hz).trans ⟨fun h => h.2.2.mono (fun x hx e => hx (by rw [e])), fun h => ⟨by omega, fun e => h.first (by omega), h.mono (fun x hx e => hx (by omega))⟩⟩); clear hr5 ht5 hf5 hb5))
          have HS5 := Lib.hid (HR.out.stay H5.out.2.2)
          have hV5 : V.heap.size ≤ wo.heap.size := HR.out.ch.size
          go_wp2
          go_loopw [8] (fun a wr => ∃ k : Nat, a = .int .i64 k ∧ k ≤ c.length ∧ Hid (Ch (fun z => z < V.heap.size) w5 wr ∧ Dt W V wr V1.heap.size b c.length r (fun i j => decide ((j < d ∧ Dmp c j i) ∨ (j = d ∧ i < k ∧ Dmp c j i))))) (fun a _ => c.length - (intOf a).toNat)
          case atStart => exact ⟨0, rfl, Nat.zero_le _, Lib.hid ⟨Ch.refl _ _, HS5.out.to fun i j _ _ => by simp⟩⟩
          case round =>
            obtain ⟨wi, rfl⟩ : ∃ wo : World, wo = wr := ⟨_, rfl⟩
            obtain ⟨k, rfl, hk, HK⟩ := hrel
            by_cases hkn : k < c.length
            · have i3 := HK.out.2.fv.cell hkn
              have ir := (HK.out.2.row k hkn).cell hdn
              have fr := (HK.out.2.row k hkn).frozen d
              obtain ⟨a4, o4, rfl, i4⟩ := HRV.out wi HK.out.2.ch k hkn
              obtain ⟨a5, o5, e5, hl5, i5⟩ := H5.out.1 k hkn
              subst e5
              have hw5 := H5.out.2.1 _ _ _ rfl
              have i5 : wi.cell? ⟨a5, o5 + k, none⟩ = some (.bool (k5 k)) := (HK.out.1.cell hl5 (by show ¬ a5 < V.heap.size; have : wo.heap.size ≤ a5 := hw5; omega)).trans i5
              have h4 := bool_is (HV1.out.2.1 k hkn)
              have h5 := bool_is (HT.out k hkn)
              simp only [bv] at ir
              have HS : Hid (∀ x, (x = true ↔ Dmp c d k) → Ch (fun z => z < V.heap.size) w5 (wi.setCell ⟨r k, d, none⟩ (.bool x)) ∧ Dt W V (wi.setCell ⟨r k, d, none⟩ (.bool x)) V1.heap.size b c.length r (fun i j => decide ((j < d ∧ Dmp c j i) ∨ (j = d ∧ i < k + 1 ∧ Dmp c j i)))) := Lib.hid fun x hx => by
                refine ⟨HK.out.1.set (.inl (HK.out.2.lo k hkn).2) d _, (HK.out.2.set hkn d x).to fun i j hi hj => ?_⟩
                by_cases e : i = k
                · subst e
                  rw [upd_at]
                  by_cases e2 : j = d
                  · subst e2
                    rw [upd_at, Bool.eq_iff_iff, hx, decide_eq_true_eq]
                    exact ⟨fun h => .inr ⟨rfl, by omega, h⟩, fun h => h.elim (fun h => absurd h.1 (by omega)) fun h => h.2.2⟩
                  · rw [upd_of e2, decide_eq_decide]
                    exact or_congr_right ⟨fun h => absurd h.1 e2, fun h => absurd h.1 e2⟩
                · rw [upd_of e, decide_eq_decide]
                  exact or_congr_right ⟨fun h => ⟨h.1, by omega, h.2.2⟩, fun h => ⟨h.1, by omega, h.2.2⟩⟩
              by_cases hR : Rch c k
              · rw [h4.1 hR] at i4
                by_cases hw : Gm.Way (Ed c) (fun z => z ≠ d) 0 k
                · rw [h5.1 hw] at i5
                  have HX := Lib.hid (HS.out false ⟨fun e => (by cases e), fun h => absurd hw h.2⟩)
                  clear h4 h5 hR hw
                  go_upto_region 14 with (fail)
                  go_region
                  all_goals
                    go_wp2
                    go_roundw
                    case rel => exact ⟨k + 1, by go_num, by omega, Lib.hid ⟨HX.out.1.like rfl rfl rfl rfl, HX.out.2.like rfl rfl rfl rfl⟩⟩
                    case measure => (simp [intOf]; try omega)
                · rw [h5.2 hw] at i5
                  have HX := Lib.hid (HS.out true ⟨fun _ => ⟨hR, hw⟩, fun _ => rfl⟩)
                  clear h4 h5 hR hw
                  go_upto_region 14 with (fail)
                  go_region
                  all_goals
                    go_wp2
                    go_roundw
                    case rel => exact ⟨k + 1, by go_num, by omega, Lib.hid ⟨HX.out.1.like rfl rfl rfl rfl, HX.out.2.like rfl rfl rfl rfl⟩⟩
                    case measure => (simp [intOf]; try omega)
              · rw [h4.2 hR] at i4
                have HX := Lib.hid (HS.out false ⟨fun e => (by cases e), fun h => absurd h.1 hR⟩)
                clear h4 h5 hR
                go_upto_region 14 with (fail)
                go_region
                all_goals
                  go_wp2
                  go_roundw
                  case rel => exact ⟨k + 1, by go_num, by omega, Lib.hid ⟨HX.out.1.like rfl rfl rfl rfl, HX.out.2.like rfl rfl rfl rfl⟩⟩
                  case measure => (simp [intOf]; try omega)
            · obtain rfl : k = c.length := by omega
              have HE := Lib.hid (HK.out.2.to (t' := fun i j => decide (j < d + 1 ∧ Dmp c j i)) fun i j hi hj => by
                rw [decide_eq_decide]
                constructor
                · rintro (⟨h1, h2⟩ | ⟨h1, h2, h3⟩)
                  · exact ⟨by omega, h2⟩
                  · exact ⟨by omega, h3⟩
                · rintro ⟨h1, h2⟩
                  by_cases e : j = d
                  · exact .inr ⟨e, hi, h2⟩
                  · exact .inl ⟨by omega, h2⟩)
              go_wp2
              go_roundw
              case rel => exact ⟨d + 1, by go_num, by omega, HE⟩
              case measure => (simp [intOf]; try omega)
        · obtain rfl : d = c.length := by omega
          go_wp2
          go_ret
          exact ⟨_, rfl, ⟨_, _, _, rfl, HR.out.fv.rv, fun i hi => ⟨_, _, _, rfl, (HR.out.row i hi).rv, fun j hj => by rw [decide_eq_true_eq]; exact ⟨fun h => h.2, fun h => ⟨hj, h⟩⟩⟩⟩, HR.out.bel⟩
end
section
open Go Go.RowKit Gm Classical

/-- From j a way leads back to h. -/
def Bck (c : List Ic) (h j : Nat) : Prop := Ed c j h ∧ Rch c j ∧ Dmp c h j
/-- i is in a loop of h by j. -/
def By (c : List Ic) (h j i : Nat) : Prop := Bck c h j ∧ (i = h ∨ (Rch c i ∧ Gm.Way (Ed c) (fun z => z ≠ h) i j))
theorem lpp_by {c : List Ic} {h i : Nat} : Lpp c h i ↔ ∃ j, j < c.length ∧ By c h j i :=
  ⟨fun ⟨j, e, r, d, k⟩ => ⟨j, (out_of e).1, ⟨e, r, d⟩, k⟩, fun ⟨j, _, ⟨e, r, d⟩, k⟩ => ⟨j, e, r, d, k⟩⟩
noncomputable def dc (P : Prop) : Bool := @decide P (propDecidable P)
theorem dc_true {P : Prop} : dc P = true ↔ P := @decide_eq_true_iff P (propDecidable P)
theorem dc_eq {P Q : Prop} (h : P ↔ Q) : dc P = dc Q := by rw [propext h]
theorem dc_yes {P : Prop} (h : P) : dc P = true := dc_true.2 h
theorem dc_no {P : Prop} (h : ¬ P) : dc P = false := Bool.eq_false_iff.2 fun e => h (dc_true.1 e)
/-- A row of truths, and what stays. -/
structure Lw (W X : World) (b n : Nat) (g : Nat → Bool) : Prop where
  bel : Below W.heap.size W X
  fv : FV 4 X b n (bv g)
  g : W.heap.size ≤ b
section
variable {W X Y : World} {b n : Nat} {g g' : Nat → Bool}
theorem Lw.like (h : Lw W X b n g) (e : Y.heap = X.heap) (e1 : Y.os = X.os) (e2 : Y.tape = X.tape) (e3 : Y.output = X.output) : Lw W Y b n g := ⟨below_like h.bel e e1 e2 e3, h.fv.of_heap (by rw [e]), h.g⟩
theorem Lw.stay (h : Lw W X b n g) (hb : Below X.heap.size X Y) : Lw W Y b n g := ⟨h.bel.trans (hb.mono h.bel.size), h.fv.stay hb, h.g⟩
theorem Lw.set (h : Lw W X b n g) (i : Nat) (x : Bool) : Lw W (X.setCell ⟨b, i, none⟩ (.bool x)) b n (upd g i x) := ⟨h.bel.setCell (p := ⟨b, i, none⟩) h.g _, bv_upd g i x ▸ h.fv.set i (.bool x), h.g⟩
theorem Lw.to (h : Lw W X b n g) (e : ∀ i, i < n → g i = g' i) : Lw W X b n g' := ⟨h.bel, h.fv.to fun i hi => by simp only [bv, e i hi], h.g⟩
end
/-- What a call of loop gives. -/
def LoopQ (c : List Ic) (h : Nat) (W : World) (e : Ending) (w' : World) : Prop := ∃ v l, e = .returned v ∧ GV 3 W.heap.size w' v l.length (lv l) ∧ l.Pairwise (fun x y => x < y) ∧ (∀ t, t ∈ l ↔ Lpp c h t) ∧ Below W.heap.size W w'
set_option maxRecDepth 100000 in
set_option maxHeartbeats 16000000 in
theorem rloop_c {W : World} {p : Option Addr} {cap : Nat} {c : List Ic} (hc : Hid (CodeAt W p c)) (hn : c.length ≤ 1000000) {h : Nat} (hh : h < c.length) {vd vr : Value} (hd : Hid (Rows2 W vd c.length fun X i u => BR X u c.length fun j => Dmp c j i)) (hr : Hid (BR W vr c.length (Rch c))) :
    Calls Tryd.prog 35 #[.slice p c.length cap, .int .i64 h, vd, vr] W (LoopQ c h W) := by
  have hmk := make_b c.length (by omega)
  obtain ⟨q7, cq7, S7, rfl, r7, t7⟩ := hd.out
  obtain ⟨q6, cq6, g6, rfl, r6, t6⟩ := hr.out
  have RD : Hid (∀ X i k, Below W.heap.size W X → i < c.length → k < c.length → ∃ g, (∃ a o, q7 = some ⟨a, o, none⟩ ∧ ∃ qa qo ci, X.cell? ⟨a, o + i, none⟩ = some (.slice (some ⟨qa, qo, none⟩) c.length ci) ∧ X.cell? ⟨qa, qo + k, none⟩ = some (.bool g)) ∧ (g = true ↔ Dmp c k i)) := Lib.hid fun X i k hX hi hk => by
    obtain ⟨a, o, e, _, h1⟩ := (r7.stay hX) i hi
    obtain ⟨qi, ci, gi, ei, ri, ti⟩ := t7 i hi
    obtain ⟨qa, qo, rfl, _, h2⟩ := (ri.stay hX) k hk
    rw [ei] at h1
    exact ⟨gi k, ⟨a, o, e, qa, qo, ci, h1, h2⟩, ti k hk⟩
  have RR : Hid (∀ X i, Below W.heap.size W X → i < c.length → ∃ a o, q6 = some ⟨a, o, none⟩ ∧ X.cell? ⟨a, o + i, none⟩ = some (.bool (g6 i)) ∧ (g6 i = true ↔ Rch c i)) := Lib.hid fun X i hX hi => by
    obtain ⟨a, o, e, _, h1⟩ := (r6.stay hX) i hi
    exact ⟨a, o, e, h1, t6 i hi⟩
  clear r7 t7 r6 t6
  go_enter Tryd.func35, Tryd.ntmps35
  go_upto_region 3 with (fail)
  refine name_world ?_
  intro V hV
  obtain ⟨b, hb⟩ : ∃ b, W.heap.size = b := ⟨_, rfl⟩
  have HV : Hid (Lw W V b c.length (fun i => dc (∃ j, j < 0 ∧ By c h j i))) := Lib.hid (by
    rw [hV, ← hb]
    exact ⟨below1 W _, (FV.new (F := bv fun _ => false) rfl (by simp; rfl)).to fun i _ => by simp only [bv]; rw [dc_no fun ⟨q, h1, _⟩ => absurd h1 (Nat.not_lt_zero _)], Nat.le_refl _⟩)
  try rw [hb]
  clear hV hb hmk
  go_wp2
  go_loopw [11] (fun a wr => ∃ j : Nat, a = .int .i64 j ∧ j ≤ c.length ∧ Hid (Lw W wr b c.length (fun i => dc (∃ q, q < j ∧ By c h q i)))) (fun a _ => c.length - (intOf a).toNat)
  case atStart => exact ⟨0, rfl, Nat.zero_le _, HV⟩
  case round =>
    clear HV
    obtain ⟨wo, rfl⟩ : ∃ wo : World, wo = wr := ⟨_, rfl⟩
    obtain ⟨j, rfl, hj, HR⟩ := hrel
    by_cases hjn : j < c.length
    · have HNx := Lib.hid (next_c (cap := cap) (Lib.hid (hc.out.stay HR.out.bel)) hn hjn)
      obtain ⟨O, hO⟩ : ∃ O, outs c j = O := ⟨_, rfl⟩
      have hOl : O.length ≤ 2 := hO ▸ outs_len c j
      rw [hO] at HNx
      have HO := Lib.hid hO
      clear hO
      go_upto_region 7 with (go_at_call 27; ((with_reducible refine HNx.out.mono ?_); rintro e5 w5 ⟨v5, rfl, hg5, hb5⟩; obtain ⟨q5, c5, rfl, hq5⟩ := hg5.rv; have H5 := Lib.hid (And.intro hq5.1 hb5); clear hg5 hb5 hq5))
      have HS5 := Lib.hid (HR.out.stay H5.out.2)
      have HNo : Hid (¬ Bck c h j → Lw W w5 b c.length (fun i => dc (∃ q, q < j + 1 ∧ By c h q i))) := Lib.hid fun hn => HS5.out.to fun i _ => by
        refine dc_eq ?_
        refine ⟨fun ⟨q, h1, h2⟩ => ⟨q, by omega, h2⟩, fun ⟨q, h1, h2⟩ => ?_⟩
        by_cases e : q = j
        · exact absurd (e ▸ h2.1) hn
        · exact ⟨q, by omega, h2⟩
      go_wp2
      go_loopw [13, 14] (fun a13 a14 wr => ∃ (x : Bool) (k : Nat), a13 = .bool x ∧ a14 = .int .i64 k ∧ k ≤ O.length ∧ wr = w5 ∧ Hid (x = true ↔ h ∈ O.take k)) (fun _ a14 _ => O.length - (intOf a14).toNat)
      case atStart => exact ⟨false, 0, rfl, rfl, Nat.zero_le _, rfl, Lib.hid (by simp)⟩
      case round =>
        obtain ⟨x, k, rfl, rfl, hk, rfl, HX⟩ := hrel
        by_cases hkl : k < O.length
        · obtain ⟨g5, o5, rfl, -, i5⟩ := H5.out.1 k hkl
          obtain ⟨y, hy⟩ : ∃ y, O[k]? = some y := ⟨_, List.getElem?_eq_getElem hkl⟩
          have ilv : lv O k = .int .i64 (y : Int) := by simp [lv, hy]
          rw [ilv] at i5
          have HT : Hid (O.take (k + 1) = O.take k ++ [y]) := Lib.hid (by rw [List.take_add_one, hy]; rfl)
          clear ilv hy
          cases x with
          | true =>
            go_wp2
            go_roundw
            case rel => exact ⟨true, k + 1, rfl, by go_num, by omega, by trivial, Lib.hid (by rw [HT.out]; simp [HX.out.1 rfl])⟩
            case measure => (simp [intOf]; try omega)
          | false =>
            have hnt : ¬ h ∈ O.take k := fun e => by have := HX.out.2 e; cases this
            by_cases hyh : y = h
            · have hb1 : ((y : Int) == (h : Int)) = true := by rw [hyh]; simp
              go_wp2
              go_roundw
              case rel => exact ⟨true, k + 1, rfl, by go_num, by omega, by trivial, Lib.hid (by rw [HT.out]; simp [hyh])⟩
              case measure => (simp [intOf]; try omega)
            · have hb1 : ((y : Int) == (h : Int)) = false := beq_eq_false_iff_ne.2 (by omega)
              go_wp2
              go_roundw
              case rel => exact ⟨false, k + 1, rfl, by go_num, by omega, by trivial, Lib.hid (by rw [HT.out]; simp [hnt]; omega)⟩
              case measure => (simp [intOf]; try omega)
        · obtain rfl : k = O.length := by omega
          have hX : x = true ↔ Ed c j h := by
            have := HX.out
            rw [List.take_length, ← HO.out] at this
            exact this
          obtain ⟨a6, o6, rfl, i6, h6⟩ := RR.out wr j HS5.out.bel hjn
          obtain ⟨z, ⟨a7, o7, rfl, qa, qo, ci, k1, k2⟩, hz⟩ := RD.out wr j h HS5.out.bel hjn hh
          cases x with
          | false =>
            have HE := Lib.hid (HNo.out fun k => by have := hX.2 k.1; cases this)
            clear hX h6 hz
            go_wp2
            go_roundw
            case rel => exact ⟨j + 1, by go_num, by omega, HE⟩
            case measure => (simp [intOf]; try omega)
          | true =>
            have hE := hX.1 rfl
            cases hg6 : g6 j with
            | false =>
              have HE := Lib.hid (HNo.out fun k => by have := h6.2 k.2.1; rw [hg6] at this; cases this)
              rw [hg6] at i6
              clear hX h6 hz hg6
              go_wp2
              go_roundw
              case rel => exact ⟨j + 1, by go_num, by omega, HE⟩
              case measure => (simp [intOf]; try omega)
            | true =>
              have hRj := h6.1 hg6
              rw [hg6] at i6
              cases z with
              | false =>
                have HE := Lib.hid (HNo.out fun k => by have := hz.2 k.2.2; cases this)
                clear hX h6 hz hg6
                go_wp2
                go_roundw
                case rel => exact ⟨j + 1, by go_num, by omega, HE⟩
                case measure => (simp [intOf]; try omega)
              | true =>
                have HBk : Hid (Bck c h j) := Lib.hid ⟨hE, hRj, hz.1 rfl⟩
                have ib := HS5.out.fv.cell hh
                have fb := HS5.out.fv.frozen h
                simp only [bv] at ib
                have HA : Hid (Lw W (wr.setCell ⟨b, h, none⟩ (.bool true)) b c.length (fun i => dc ((∃ q, q < j ∧ By c h q i) ∨ i = h ∨ (i < 0 ∧ Rch c i ∧ Gm.Way (Ed c) (fun z => z ≠ h) i j)))) := Lib.hid ((HS5.out.set h true).to fun i _ => by
                  by_cases e : i = h
                  · rw [e, upd_at, dc_yes (.inr (.inl rfl))]
                  · rw [upd_of e]
                    refine dc_eq ?_
                    simp [e])
                clear hX h6 hz hg6 hE hRj HNo
                go_wp2
                go_loopw [15] (fun a wi => ∃ i : Nat, a = .int .i64 i ∧ i ≤ c.length ∧ Hid (Lw W wi b c.length (fun i' => dc ((∃ q, q < j ∧ By c h q i') ∨ i' = h ∨ (i' < i ∧ Rch c i' ∧ Gm.Way (Ed c) (fun z => z ≠ h) i' j))))) (fun a _ => c.length - (intOf a).toNat)
                case atStart => exact ⟨0, rfl, Nat.zero_le _, HA⟩
                case round =>
                  clear HA ib fb i6 k1 k2
                  obtain ⟨wi, rfl⟩ : ∃ wo : World, wo = wr := ⟨_, rfl⟩
                  obtain ⟨i, rfl, hi, HK⟩ := hrel
                  by_cases hin : i < c.length
                  · have HW := Lib.hid (without_any (cap := cap) (Lib.hid (hc.out.stay HK.out.bel)) hn i (by omega) (h : Int))
                    go_upto_region 18 with (go_at_call 22; ((with_reducible refine HW.out.mono ?_); rintro e6 w6 ⟨v6, rfl, ⟨q8, c8, k8, rfl, hr8, ht8⟩, -, hb8⟩; have H8 := Lib.hid (And.intro hr8 hb8); have HT : Hid (k8 j = true ↔ Gm.Way (Ed c) (fun z => z ≠ h) i j) := Lib.hid ((ht8 j hjn).trans ⟨fun h2 => h2.2.2.mono (fun x hx e => hx (by rw [e])), fun h2 => ⟨hin, fun e => h2.first (by omega), h2.mono (fun x hx e => hx (by omega))⟩⟩); clear hr8 ht8 hb8))
                    have HS8 := Lib.hid (HK.out.stay H8.out.2)
                    obtain ⟨a6', o6', e6', i6, h6⟩ := RR.out w6 i HS8.out.bel hin
                    cases e6'
                    obtain ⟨a8, o8, rfl, -, i8⟩ := H8.out.1 j hjn
                    simp only [bv] at i8
                    have HNo : Hid (¬ (Rch c i ∧ Gm.Way (Ed c) (fun z => z ≠ h) i j) → Lw W w6 b c.length (fun i' => dc ((∃ q, q < j ∧ By c h q i') ∨ i' = h ∨ (i' < i + 1 ∧ Rch c i' ∧ Gm.Way (Ed c) (fun z => z ≠ h) i' j)))) := Lib.hid fun hn => HS8.out.to fun i' _ => dc_eq (or_congr_right (or_congr_right ⟨fun h => ⟨by omega, h.2⟩, fun h => by
                      by_cases e : i' = i
                      · exact absurd (e ▸ h.2) hn
                      · exact ⟨by omega, h.2⟩⟩))
                    cases hg : g6 i with
                    | false =>
                      have HE := Lib.hid (HNo.out fun k => by have := h6.2 k.1; rw [hg] at this; cases this)
                      rw [hg] at i6
                      clear h6 hg
                      go_wp2
                      go_roundw
                      case rel => exact ⟨i + 1, by go_num, by omega, HE⟩
                      case measure => (simp [intOf]; try omega)
                    | true =>
                      have hRi := h6.1 hg
                      rw [hg] at i6
                      cases hk : k8 j with
                      | false =>
                        have HE := Lib.hid (HNo.out fun k => by have := HT.out.2 k.2; rw [hk] at this; cases this)
                        rw [hk] at i8
                        clear h6 hg hk hRi
                        go_wp2
                        go_roundw
                        case rel => exact ⟨i + 1, by go_num, by omega, HE⟩
                        case measure => (simp [intOf]; try omega)
                      | true =>
                        have hWi := HT.out.1 hk
                        rw [hk] at i8
                        have ib := HS8.out.fv.cell hin
                        have fb := HS8.out.fv.frozen i
                        simp only [bv] at ib
                        have HE : Hid (Lw W (w6.setCell ⟨b, i, none⟩ (.bool true)) b c.length (fun i' => dc ((∃ q, q < j ∧ By c h q i') ∨ i' = h ∨ (i' < i + 1 ∧ Rch c i' ∧ Gm.Way (Ed c) (fun z => z ≠ h) i' j)))) := Lib.hid ((HS8.out.set i true).to fun i' _ => by
                          by_cases e : i' = i
                          · rw [e, upd_at, dc_yes (.inr (.inr ⟨by omega, hRi, hWi⟩))]
                          · rw [upd_of e]
                            exact dc_eq (or_congr_right (or_congr_right ⟨fun h => ⟨by omega, h.2⟩, fun h => ⟨by omega, h.2⟩⟩)))
                        clear h6 hg hk hRi hWi HNo
                        go_wp2
                        go_roundw
                        case rel => exact ⟨i + 1, by go_num, by omega, HE⟩
                        case measure => (simp [intOf]; try omega)
                  · obtain rfl : i = c.length := by omega
                    have HE := Lib.hid (HK.out.to (g' := fun i => dc (∃ q, q < j + 1 ∧ By c h q i)) fun i hi => by
                      refine dc_eq ?_
                      constructor
                      · rintro (⟨q, h1, h2⟩ | h1)
                        · exact ⟨q, by omega, h2⟩
                        · exact ⟨j, by omega, HBk.out, h1.imp id fun h => h.2⟩
                      · rintro ⟨q, h1, h2⟩
                        by_cases e : q = j
                        · subst e
                          exact .inr (h2.2.imp id fun h => ⟨hi, h⟩)
                        · exact .inl ⟨q, by omega, h2⟩)
                    go_wp2
                    go_roundw
                    case rel => exact ⟨j + 1, by go_num, by omega, HE⟩
                    case measure => (simp [intOf]; try omega)
    · obtain rfl : j = c.length := by omega
      obtain ⟨G, hG⟩ : ∃ G : Nat → Bool, (fun i => dc (∃ q, q < c.length ∧ By c h q i)) = G := ⟨_, rfl⟩
      have HG : Hid (∀ i, G i = true ↔ Lpp c h i) := Lib.hid fun i => by rw [← hG, lpp_by]; exact dc_true
      rw [hG] at HR
      clear hG
      obtain ⟨V2, rfl⟩ : ∃ V, V = wo := ⟨_, rfl⟩
      go_wp2
      go_loopw [9, 17] (fun a9 a17 wr => ∃ (i : Nat) (q : Option Addr) (cq : Nat), a9 = .slice q ((List.range i).filter G).length cq ∧ a17 = .int .i64 i ∧ i ≤ c.length ∧ Hid (Lw W wr b c.length G ∧ V2.heap.size ≤ wr.heap.size ∧ GV 3 V2.heap.size wr (.slice q ((List.range i).filter G).length cq) ((List.range i).filter G).length (lv ((List.range i).filter G)))) (fun _ a17 _ => c.length - (intOf a17).toNat)
      case atStart => exact ⟨0, none, 0, rfl, rfl, Nat.zero_le _, Lib.hid ⟨HR.out, Nat.le_refl _, GV.nil _ _ _ _⟩⟩
      case round =>
        obtain ⟨wi, rfl⟩ : ∃ wo : World, wo = wr := ⟨_, rfl⟩
        obtain ⟨i, q, cq, rfl, rfl, hi, HK⟩ := hrel
        by_cases hin : i < c.length
        · have ib := HK.out.1.fv.cell hin
          simp only [bv] at ib
          have hsucc : (List.range (i + 1)).filter G = (List.range i).filter G ++ (if G i then [i] else []) := by
            rw [List.range_succ, List.filter_append]
            congr 1
            cases hg : G i <;> simp [hg]
          have hll : ((List.range i).filter G).length ≤ i := Nat.le_trans (List.length_filter_le _ _) (by simp)
          obtain ⟨L, hL⟩ : ∃ L, (List.range i).filter G = L := ⟨_, rfl⟩
          rw [hL] at hsucc hll HK ⊢
          cases hg : G i with
          | false =>
            rw [hg] at ib hsucc
            have HE : Hid ((List.range (i + 1)).filter G = L) := Lib.hid (by rw [hsucc]; simp)
            clear hsucc hL hg
            go_wp2
            go_roundw
            case rel => exact ⟨i + 1, q, cq, by rw [HE.out], by go_num, by omega, by rw [HE.out]; exact HK⟩
            case measure => (simp [intOf]; try omega)
          | true =>
            rw [hg] at ib hsucc
            have HE : Hid ((List.range (i + 1)).filter G = L ++ [i]) := Lib.hid (by rw [hsucc]; simp)
            have hsz := HK.out.2.1
            obtain ⟨i0, hi0, hz0, hz1, hz2⟩ := info_parts info_int
            clear hsucc hL hg
            go_wp2_with (at_builtin; refine wpList_append_own_at _ rfl _ _ 34 rfl V2.heap.size 3 i0 (.int .i64 0) 1 8 Tryd.underlying34 hi0 hz0 hz1 hz2 rfl (by decide) (.slice q L.length cq) L.length (rw_ L.length (lv L)) rfl (World.ownsRow.alloc HK.out.2.2 _) ⟨wi.heap.size, 0, none⟩ 1 1 [.int .i64 (i : Int)] rfl rfl (cell_one_new _ _ _) (fun u hu => by simp at hu; subst hu; rfl) (by unfold maxLen; omega) (by omega) (by simp; omega) ?_; intro v8 w8 hown hgrow _ hats; have HG8 : Hid (GV 3 V2.heap.size w8 v8 (L.length + 1) (upd (lv L) L.length (.int .i64 (i : Int)))) := Lib.hid (GV.more hown); have HA8 : Hid (Apd wi w8 (.slice q L.length cq) v8) := Lib.hid (apd_of hgrow hats); clear hown hgrow hats)
            obtain ⟨q8, cp8, rfl, -⟩ := HG8.out.open
            go_roundw
            case rel =>
              have hV := HR.out.fv.lt
              have hg9 := HR.out.g
              have hbz := HR.out.bel.size
              have hS : ∀ k, (Value.slice q L.length cq).ownBlock = some k → V2.heap.size ≤ k := fun k e => (HK.out.2.2.lt k e).1
              refine ⟨i + 1, q8, cp8, by rw [HE.out, List.length_append]; rfl, by go_num, by omega, Lib.hid ⟨⟨HK.out.1.bel.trans (HA8.out.1.below HK.out.1.bel.size fun k hk e => by have := hS k e; omega), HK.out.1.fv.ch HA8.out.1 fun e => by (have := hS _ e; omega), hg9⟩, Nat.le_trans hsz HA8.out.1.size, ?_⟩⟩
              rw [HE.out, List.length_append]
              exact HG8.out.to fun i hi => lv_snoc hi
            case measure => (simp [intOf]; try omega)
        · obtain rfl : i = c.length := by omega
          go_wp2
          go_ret
          exact ⟨_, _, rfl, HK.out.2.2.mono HR.out.bel.size, List.pairwise_lt_range.filter _, fun t => by
            rw [List.mem_filter, List.mem_range, HG.out t]
            exact ⟨fun h => h.2, fun h => ⟨h.lt, h⟩⟩, HK.out.1.bel⟩
end
section
open Go Go.RowKit Gm Classical

theorem gv_ne {T T' : TypeId} {B B' k m : Nat} {W : World} {v u : Value} {F G : Nat → Value} (h : GV T B W v k F) (g : GV T' B' W u m G) (hn : T ≠ T') : ∀ z, v.ownBlock = some z → ¬ u.ownBlock = some z := fun z e1 e2 => by
  rcases h.2 with ⟨rfl, _⟩ | ⟨g1, c1, r1, rfl, _, h1, _⟩
  · cases e1
  · rcases g.2 with ⟨rfl, _⟩ | ⟨g2, c2, r2, rfl, _, h2, _⟩
    · cases e2
    · have a1 : g1 = z := by simpa [Value.ownBlock] using e1
      have a2 : g2 = z := by simpa [Value.ownBlock] using e2
      exact two_types h1 h2 hn (a1.trans a2.symm)
/-- The first places from which loops begin. -/
noncomputable def php (c : List Ic) (i : Nat) : List Nat := (List.range i).filter fun i => decide (Lpp c i i)
theorem php_all (c : List Ic) : php c c.length = phs c := rfl
theorem php_succ (c : List Ic) (i : Nat) : php c (i + 1) = php c i ++ (if Lpp c i i then [i] else []) := by
  unfold php
  rw [List.range_succ, List.filter_append]
  congr 1
  by_cases h : Lpp c i i <;> simp [h]
theorem php_len (c : List Ic) (i : Nat) : (php c i).length ≤ i := by
  unfold php
  exact Nat.le_trans (List.length_filter_le _ _) (by simp)
theorem lpp_self {c : List Ic} {h t : Nat} (k : Lpp c h t) : Lpp c h h := by
  obtain ⟨j, e, r, d, _⟩ := k
  exact ⟨j, e, r, d, .inl rfl⟩
/-- One loop's row. -/
def LRow (c : List Ic) (B : Nat) (X : World) (h : Nat) (v : Value) : Prop := ∃ l, GV 3 B X v l.length (lv l) ∧ l.Pairwise (fun x y => x < y) ∧ ∀ t, t ∈ l ↔ Lpp c h t
/-- Loops so far. -/
structure Lq2 (c : List Ic) (W X : World) (v : Value) (P : List Nat) (S : Nat → Value) : Prop where
  bel : Below W.heap.size W X
  gv : GV 34 W.heap.size X v P.length S
  row : ∀ k, k < P.length → LRow c W.heap.size X (P.getD k 0) (S k)
section
variable {c : List Ic} {W X Y : World} {v : Value} {P : List Nat} {S : Nat → Value}
theorem LRow.stay {B h : Nat} {u : Value} (k : LRow c B X h u) (hb : Below X.heap.size X Y) : LRow c B Y h u := by
  obtain ⟨l, h1, h2⟩ := k
  exact ⟨l, h1.stay hb, h2⟩
theorem Lq2.stay (h : Lq2 c W X v P S) (hb : Below X.heap.size X Y) : Lq2 c W Y v P S := ⟨h.bel.trans (hb.mono h.bel.size), h.gv.stay hb, fun k hk => (h.row k hk).stay hb⟩
theorem Lq2.app {v' u : Value} {h : Nat} (k : Lq2 c W X v P S) (hu : LRow c W.heap.size X h u) (hz : Apd X Y v v') (hg : GV 34 W.heap.size Y v' (P.length + 1) (upd S P.length u)) : Lq2 c W Y v' (P ++ [h]) (upd S P.length u) := by
  have keep : ∀ {h u}, LRow c W.heap.size X h u → LRow c W.heap.size Y h u := fun ⟨l, h1, h2⟩ => ⟨l, h1.ch hz.1 fun z e e2 => gv_ne h1 k.gv (by decide) z e e2, h2⟩
  refine ⟨k.bel.trans (hz.1.below k.bel.size fun b hb e => by have := (k.gv.lt b e).1; omega), by rw [List.length_append]; exact hg, fun q hq => ?_⟩
  rw [List.length_append] at hq
  by_cases e : q = P.length
  · subst e
    rw [upd_at]
    have : (P ++ [h]).getD P.length 0 = h := by simp
    rw [this]
    exact keep hu
  · have hq2 : q < P.length := by simp at hq; omega
    rw [upd_of e]
    have : (P ++ [h]).getD q 0 = P.getD q 0 := by simp [List.getD_eq_getElem?_getD, List.getElem?_append_left hq2]
    rw [this]
    exact keep (k.row q hq2)
end
set_option maxRecDepth 100000 in
set_option maxHeartbeats 8000000 in
theorem rloops_q {W : World} {p : Option Addr} {cap : Nat} {c : List Ic} (hc : Hid (CodeAt W p c)) (hn : c.length ≤ 1000000) : Calls Tryd.prog 17 #[.slice p c.length cap] W fun e w' => ∃ q cq S, e = .returned (.slice q (phs c).length cq) ∧ Lq2 c W w' (.slice q (phs c).length cq) (phs c) S := by
  go_enter Tryd.func17, Tryd.ntmps17
  go_upto_region 4 with (first
    | (go_at_call 15; ((with_reducible refine (rdomin_c hc hn).mono ?_); rintro e1 w1 ⟨vd, rfl, h1, hb1⟩; have H1 := Lib.hid h1; have HB1 := Lib.hid hb1; have C1 := Lib.hid (hc.out.stay hb1); clear h1 hb1))
    | (go_at_call 10; ((with_reducible refine (rreach_c C1 hn).mono ?_); rintro e2 w2 ⟨vr, rfl, h2, hb2⟩; have H2 := Lib.hid h2; have H1' := Lib.hid (H1.out.br hb2); have HB2 := Lib.hid (below_ch HB1.out hb2); have C2 := Lib.hid (C1.out.stay hb2); clear h2 hb2)))
  go_wp2
  go_loopw [3, 6] (fun a3 a6 wr => ∃ (h : Nat) (q : Option Addr) (cq : Nat) (S : Nat → Value), a3 = .slice q (php c h).length cq ∧ a6 = .int .i64 h ∧ h ≤ c.length ∧ Hid (Lq2 c w2 wr (.slice q (php c h).length cq) (php c h) S)) (fun _ a6 _ => c.length - (intOf a6).toNat)
  case atStart => exact ⟨0, none, 0, fun _ => .slice none 0 0, rfl, rfl, Nat.zero_le _, Lib.hid ⟨Below.refl _ _, GV.nil _ _ _ _, fun k hk => absurd hk (Nat.not_lt_zero _)⟩⟩
  case round =>
    obtain ⟨wo, rfl⟩ : ∃ wo : World, wo = wr := ⟨_, rfl⟩
    obtain ⟨h, q, cq, S, rfl, rfl, hh, HR⟩ := hrel
    by_cases hhn : h < c.length
    · have HC := Lib.hid (rloop_c (cap := cap) (Lib.hid (C2.out.stay HR.out.bel)) hn hhn (Lib.hid (H1'.out.br HR.out.bel)) (Lib.hid (H2.out.stay HR.out.bel)))
      have hsucc := php_succ c h
      have hpl := php_len c h
      go_upto_region 8 with (go_at_call 35; ((with_reducible refine HC.out.mono ?_); rintro e5 w5 ⟨v5, l, rfl, hg5, hu5, hm5, hb5⟩; obtain ⟨q5, c5, rfl, -⟩ := hg5.open; have H5 := Lib.hid (And.intro hg5 (And.intro hu5 (And.intro hm5 hb5))); clear hg5 hu5 hm5 hb5))
      have HS5 := Lib.hid (HR.out.stay H5.out.2.2.2)
      have HRow : Hid (LRow c w2.heap.size w5 h (.slice q5 l.length c5)) := Lib.hid ⟨l, H5.out.1.mono HR.out.bel.size, H5.out.2.1, H5.out.2.2.1⟩
      by_cases hl0 : l.length = 0
      · have hnl : ¬ Lpp c h h := fun k => by
          have := (H5.out.2.2.1 h).2 k
          rw [List.eq_nil_of_length_eq_zero hl0] at this
          cases this
        rw [if_neg hnl, List.append_nil] at hsucc
        have HE := Lib.hid hsucc
        rw [hl0]
        clear hsucc hnl hl0
        go_wp2
        go_roundw
        case rel => exact ⟨h + 1, q, cq, S, by rw [HE.out], by go_num, by omega, by rw [HE.out]; exact HS5⟩
        case measure => (simp [intOf]; try omega)
      · have hlp : 0 < l.length := by omega
        have hlp' : (0 : Int) < (l.length : Int) := by omega
        have hl : Lpp c h h := by
          obtain ⟨t, ht⟩ := List.exists_mem_of_length_pos hlp
          exact lpp_self ((H5.out.2.2.1 t).1 ht)
        rw [if_pos hl] at hsucc
        have HE := Lib.hid hsucc
        obtain ⟨P, hP⟩ : ∃ P, php c h = P := ⟨_, rfl⟩
        rw [hP] at HE hpl HS5 ⊢
        have hsz := HS5.out.bel.size
        obtain ⟨j0, hj0, hy0, hy1, hy2⟩ := info_parts info_ints
        clear hsucc hl hl0 hP HR
        go_wp2_with (at_builtin; refine wpList_append_own_at _ rfl _ _ 28 rfl w2.heap.size 34 j0 (.slice none 0 0) 1 24 Tryd.underlying28 hj0 hy0 hy1 hy2 rfl (by decide) (.slice q P.length cq) P.length (rw_ P.length S) rfl (World.ownsRow.alloc HS5.out.gv _) ⟨w5.heap.size, 0, none⟩ 1 1 [.slice q5 l.length c5] rfl rfl (cell_one_new _ _ _) (fun u hu => by simp at hu; subst hu; rfl) (by unfold maxLen; omega) (by omega) (by simp; omega) ?_; intro v8 w8 hown hgrow _ hats; have HG8 : Hid (GV 34 w2.heap.size w8 v8 (P.length + 1) (upd S P.length (.slice q5 l.length c5))) := Lib.hid (GV.more hown); have HA8 : Hid (Apd w5 w8 (.slice q P.length cq) v8) := Lib.hid (apd_of hgrow hats); clear hown hgrow hats)
        obtain ⟨q8, cp8, rfl, -⟩ := HG8.out.open
        go_roundw
        case rel => exact ⟨h + 1, q8, cp8, upd S P.length (.slice q5 l.length c5), by rw [HE.out, List.length_append]; rfl, by go_num, by omega, by rw [HE.out]; exact Lib.hid (by have := HS5.out.app HRow.out HA8.out HG8.out; rw [List.length_append]; exact this)⟩
        case measure => (simp [intOf]; try omega)
    · obtain rfl : h = c.length := by omega
      go_wp2
      go_ret
      exact ⟨q, cq, S, rfl, HB2.out.trans (HR.out.bel.mono HB2.out.size), HR.out.gv.mono HB2.out.size, fun k hk => by
        obtain ⟨l, h1, h2⟩ := HR.out.row k hk
        exact ⟨l, h1.mono HB2.out.size, h2⟩⟩
theorem rloops_c {W : World} {p : Option Addr} {cap : Nat} {c : List Ic} (hc : Hid (CodeAt W p c)) (hn : c.length ≤ 1000000) : Calls Tryd.prog 17 #[.slice p c.length cap] W fun e w' => ∃ v, e = .returned v ∧ Rows2 w' v (phs c).length (fun X i u => NR X u (Lpp c ((phs c).getD i 0))) ∧ Below W.heap.size W w' := by
  refine (rloops_q hc hn).mono ?_
  rintro e w' ⟨q, cq, S, rfl, h⟩
  refine ⟨_, rfl, ⟨q, cq, S, rfl, ?_, fun k hk => ?_⟩, h.bel⟩
  · obtain ⟨q', c', e, hr, _⟩ := h.gv.rv
    cases e
    exact hr
  · obtain ⟨l, h1, h2, h3⟩ := h.row k hk
    obtain ⟨q', c', e, hr, _⟩ := h1.rv
    have := up_len c.length l 0 h2 fun x hx => ⟨Nat.zero_le _, ((h3 x).1 hx).lt⟩
    exact ⟨l, ⟨q', c', e, hr⟩, by omega, h2, h3⟩
/-- In how many of the first loops a place is. -/
noncomputable def dpi (c : List Ic) (i t : Nat) : Nat := (((phs c).take i).filter fun h => decide (Lpp c h t)).length
theorem dpi_le (c : List Ic) (i t : Nat) : dpi c i t ≤ i := by
  unfold dpi
  exact Nat.le_trans (List.length_filter_le _ _) (by rw [List.length_take]; omega)
theorem dpi_succ {c : List Ic} {i : Nat} (hi : i < (phs c).length) (t : Nat) : dpi c (i + 1) t = dpi c i t + (if Lpp c ((phs c).getD i 0) t then 1 else 0) := by
  unfold dpi
  rw [List.take_add_one, List.getElem?_eq_getElem hi, List.filter_append, List.length_append]
  congr 1
  rw [List.getD_eq_getElem?_getD, List.getElem?_eq_getElem hi]
  simp only [Option.toList_some, Option.getD_some, List.filter_cons, List.filter_nil]
  by_cases h : Lpp c (phs c)[i] t
  · rw [if_pos h, if_pos (decide_eq_true h)]; rfl
  · rw [if_neg h, if_neg (by rw [decide_eq_true_eq]; exact h)]; rfl
theorem dpi_all (c : List Ic) (t : Nat) : dpi c (phs c).length t = dpt c t := by
  unfold dpi dpt
  rw [List.take_length]
set_option maxRecDepth 100000 in
set_option maxHeartbeats 8000000 in
theorem rdepth_c {W : World} {p : Option Addr} {cap : Nat} {c : List Ic} (hc : Hid (CodeAt W p c)) (hn : c.length ≤ 1000000) : Calls Tryd.prog 20 #[.slice p c.length cap] W fun e w' => ∃ v, e = .returned v ∧ RowIn w' v ((List.range c.length).map (dpt c)) ∧ Below W.heap.size W w' := by
  have hmk := make_i c.length (by omega)
  go_enter Tryd.func20, Tryd.ntmps20
  go_upto_region 2 with (fail)
  refine name_world ?_
  intro V0 hV0
  obtain ⟨b, hb⟩ : ∃ b, W.heap.size = b := ⟨_, rfl⟩
  have HV0 : Hid (Below W.heap.size W V0 ∧ FV 3 V0 b c.length (iv fun _ => 0)) := Lib.hid (by
    rw [hV0, ← hb]
    exact ⟨below1 W _, fv_zero W c.length⟩)
  have HB := Lib.hid hb
  try rw [hb]
  clear hV0 hb hmk
  have HC0 : Hid (CodeAt V0 p c) := Lib.hid (hc.out.stay HV0.out.1)
  have hb0 := HV0.out.2.lt
  go_upto_region 3 with (go_at_call 17; ((with_reducible refine (rloops_q HC0 hn).mono ?_); rintro e1 V ⟨q4, c4, S, rfl, hL⟩; have HL := Lib.hid hL; clear hL))
  have hph : (phs c).length ≤ c.length := php_len c c.length
  have HRow : Hid (∀ X, Ch (fun z => z = b) V X → ∀ i, i < (phs c).length → ∃ (a o : Nat) (pl : Option Addr) (cl : Nat) (l : List Nat), q4 = some ⟨a, o, none⟩ ∧ X.cell? ⟨a, o + i, none⟩ = some (.slice pl l.length cl) ∧ l.Pairwise (fun x y => x < y) ∧ (∀ t, t ∈ l ↔ Lpp c ((phs c).getD i 0) t) ∧ ∀ k, k < l.length → ∃ b' u, pl = some ⟨b', u, none⟩ ∧ X.cell? ⟨b', u + k, none⟩ = some (.int .i64 (l.getD k 0 : Nat))) := Lib.hid fun X hX i hi => by
    obtain ⟨q', c', e, hr, hf⟩ := HL.out.gv.rv
    cases e
    obtain ⟨a, o, e1, hl1, h1⟩ := hr i hi
    obtain ⟨l, g1, g2, g3⟩ := HL.out.row i hi
    obtain ⟨pl, cl, e2, hr2, hf2⟩ := g1.rv
    rw [e2] at h1
    refine ⟨a, o, pl, cl, l, e1, (hX.cell hl1 fun e => by have h5 := (hf _ e1).1; have h6 : V0.heap.size ≤ a := h5; omega).trans h1, g2, g3, fun k hk => ?_⟩
    obtain ⟨b', u, e3, hl3, h3⟩ := hr2 k hk
    exact ⟨b', u, e3, (hX.cell hl3 fun e => by have h5 := (hf2 _ e3).1; have h6 : V0.heap.size ≤ b' := h5; omega).trans h3⟩
  have HD : Hid (Ch (fun z => z = b) V V ∧ FV 3 V b c.length (iv fun t => dpi c 0 t)) := Lib.hid ⟨Ch.refl _ _, (HV0.out.2.stay HL.out.bel).to fun t _ => by simp [iv, dpi]⟩
  go_wp2
  go_loopw [5] (fun a wr => ∃ i : Nat, a = .int .i64 i ∧ i ≤ (phs c).length ∧ Hid (Ch (fun z => z = b) V wr ∧ FV 3 wr b c.length (iv fun t => dpi c i t))) (fun a _ => (phs c).length - (intOf a).toNat)
  case atStart => exact ⟨0, rfl, Nat.zero_le _, HD⟩
  case round =>
    clear HD
    obtain ⟨wo, rfl⟩ : ∃ wo : World, wo = wr := ⟨_, rfl⟩
    obtain ⟨i, rfl, hi, HR⟩ := hrel
    by_cases hin : i < (phs c).length
    · obtain ⟨a, o, pl, cl, l, rfl, i1, hup, hml, i2⟩ := HRow.out wo HR.out.1 i hin
      have HM := Lib.hid (And.intro hup hml)
      clear i1 i2 hup hml
      go_wp2
      go_loopw [6] (fun a6 wr => ∃ k : Nat, a6 = .int .i64 k ∧ k ≤ l.length ∧ Hid (Ch (fun z => z = b) V wr ∧ FV 3 wr b c.length (iv fun t => (dpi c i t + (if t ∈ l.take k then 1 else 0) : Nat)))) (fun a6 _ => l.length - (intOf a6).toNat)
      case atStart => exact ⟨0, rfl, Nat.zero_le _, Lib.hid ⟨HR.out.1, HR.out.2.to fun t _ => by simp [iv]⟩⟩
      case round =>
        obtain ⟨wi, rfl⟩ : ∃ wo : World, wo = wr := ⟨_, rfl⟩
        obtain ⟨k, rfl, hk, HK⟩ := hrel
        obtain ⟨a', o', pl', cl', l', e', i1, hup', hml', i2⟩ := HRow.out wi HK.out.1 i hin
        cases e'
        obtain rfl : l' = l := up_same hup' HM.out.1 fun t => (hml' t).trans (HM.out.2 t).symm
        clear hup' hml'
        have hll := up_len c.length l' 0 HM.out.1 fun x hx => ⟨Nat.zero_le _, ((HM.out.2 x).1 hx).lt⟩
        by_cases hkl : k < l'.length
        · obtain ⟨b', u, rfl, i3⟩ := i2 k hkl
          obtain ⟨y, hy⟩ : ∃ y, l'[k]? = some y := ⟨_, List.getElem?_eq_getElem hkl⟩
          have hyl : y ∈ l' := List.mem_of_getElem? hy
          have hyn := ((HM.out.2 y).1 hyl).lt
          have eyd : l'.getD k 0 = y := by rw [List.getD_eq_getElem?_getD, hy]; rfl
          rw [eyd] at i3
          have hny : y ∉ l'.take k := fun h => by
            obtain ⟨q, hq, e⟩ := List.mem_iff_getElem.1 h
            have hqk : q < k := by have := hq; rw [List.length_take] at this; omega
            rw [List.getElem_take] at e
            have e2 : l'[k] = y := (List.getElem?_eq_some_iff.1 hy).2
            have := (List.pairwise_iff_getElem.1 HM.out.1) q k (by omega) hkl hqk
            omega
          have hT : l'.take (k + 1) = l'.take k ++ [y] := by rw [List.take_add_one, hy]; rfl
          have iD := HK.out.2.cell hyn
          have fD := HK.out.2.frozen y
          simp only [iv, if_neg hny, Nat.add_zero] at iD
          have hdl := dpi_le c i y
          have HA : Hid (Ch (fun z => z = b) V (wi.setCell ⟨b, y, none⟩ (.int .i64 ((dpi c i y + 1 : Nat) : Int))) ∧ FV 3 (wi.setCell ⟨b, y, none⟩ (.int .i64 ((dpi c i y + 1 : Nat) : Int))) b c.length (iv fun t => (dpi c i t + (if t ∈ l'.take (k + 1) then 1 else 0) : Nat))) := Lib.hid ⟨HK.out.1.set (.inl rfl) y _, by
            have h1 := HK.out.2.set y (.int .i64 ((dpi c i y + 1 : Nat) : Int))
            rw [iv_upd, nv_upd] at h1
            refine h1.to fun t _ => ?_
            simp only [iv]
            congr 2
            by_cases e : t = y
            · rw [e, upd_at, if_pos (by rw [hT]; simp)]
            · rw [upd_of e, hT]
              by_cases h : t ∈ l'.take k
              · rw [if_pos h, if_pos (List.mem_append.2 (.inl h))]
              · rw [if_neg h, if_neg (fun k => (List.mem_append.1 k).elim h fun k => e (by simpa using k))]⟩
          obtain ⟨D, hD⟩ : ∃ D, dpi c i y = D := ⟨_, rfl⟩
          rw [hD] at iD hdl HA
          clear hy hyl eyd hny hT hD
          go_upto_region 9 with (fail)
          go_wp2
          go_roundw
          case rel => exact ⟨k + 1, by go_num, by omega, HA⟩
          case measure => (simp [intOf]; try omega)
        · obtain rfl : k = l'.length := by omega
          have HE : Hid (FV 3 wi b c.length (iv fun t => dpi c (i + 1) t)) := Lib.hid (HK.out.2.to fun t _ => by
            simp only [iv]
            rw [dpi_succ hin, List.take_length]
            by_cases h : t ∈ l'
            · rw [if_pos h, if_pos ((HM.out.2 t).1 h)]
            · rw [if_neg h, if_neg fun k => h ((HM.out.2 t).2 k)])
          clear i2
          go_wp2
          go_roundw
          case rel => exact ⟨i + 1, by go_num, by omega, Lib.hid ⟨HK.out.1, HE.out⟩⟩
          case measure => (simp [intOf]; try omega)
    · obtain rfl : i = (phs c).length := by omega
      go_wp2
      go_ret
      refine ⟨_, rfl, ⟨some ⟨b, 0, none⟩, c.length, by simp, ?_⟩, ?_⟩
      · rw [List.length_map, List.length_range]
        exact HR.out.2.rv.to fun t ht => by simp [iv, lv, ht, dpi_all]
      · have h1 : Below W.heap.size W V := HV0.out.1.trans (HL.out.bel.mono HV0.out.1.size)
        exact h1.trans (HR.out.1.below h1.size fun z hz e => by have := HB.out; omega)
end
end Go.Proofs.YtacgfjcdfgdpjaaDoor
