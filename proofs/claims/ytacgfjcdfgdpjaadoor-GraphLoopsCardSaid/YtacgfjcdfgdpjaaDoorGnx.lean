/- Where an instruction may go: ins.Next. -/
import Derived.Test.YtacgfjcdfgdpjaaDoorGgat
import Derived.Deep.QuietTactic
import Derived.BigQuiet
namespace Go.Proofs.YtacgfjcdfgdpjaaDoor
set_option linter.unusedSimpArgs false
set_option linter.unusedVariables false
open Go Go.RowKit

theorem rowp_nil {w w' : World} (h : Below w.heap.size w w') : RowP w [] (.returned (.slice none 0 0)) w' := ⟨_, rfl, Rw.nil _ _, h⟩

open Go Go.RowKit

theorem has_is {k p : Int} {b : Bool} (h : hasB k.toNat p = b) (h0 : 0 ≤ k) (h1 : k ≤ 13) (w : World) (T : Hid (Kinds w)) : Calls Tryd.prog 67 #[.int .i64 k, .int .i64 p] w fun e w' => e = .returned (.bool b) ∧ w = w' := by
  obtain ⟨m, rfl⟩ := Int.eq_ofNat_of_zero_le h0
  subst h
  exact has_any m p w (by omega) T
theorem has_is' {k p : Int} {b : Bool} (h : hasB k.toNat p = b) (h0 : 0 ≤ k) (h1 : k ≤ 13) (w : World) (T : Hid (Kinds w)) : Calls Tryd.prog 67 #[.int .i64 k, .int .i64 p] w fun e w' => e = .returned (.bool b) ∧ w' = w :=
  (has_is h h0 h1 w T).mono fun _ _ ⟨h1, h2⟩ => ⟨h1, h2.symm⟩
/-- Where it may go. -/
def nextM (x : Ic) (p : Int) : List Int := if 0 ≤ x.k ∧ x.k ≤ 13 then (if hasB x.k.toNat 10 then (if ens x.k.toNat then srt [x.t] else srt [p + 1, x.t]) else if ens x.k.toNat then [] else srt [p + 1]) else []
set_option maxRecDepth 100000 in
theorem next_un (x : Ic) (p : Int) (w : World) (h : x.k < 0 ∨ 13 < x.k) : Calls Tryd.prog 50 #[.agg #[.int .i64 x.k, .int .i64 x.o, .int .i64 x.d, .int .i64 x.a, .int .i64 x.b, .int .i64 x.n, .int .i64 x.t], .int .i64 p] w (RowP w []) := by
  have H := Lib.hid h
  clear h
  go_enter Tryd.func50, Tryd.ntmps50
  go_wp2_with (go_at_call 66; (with_reducible refine (kn_f _ _ H.out).mono ?_); rintro e w' ⟨rfl, rfl⟩)
  go_ret
  exact rowp_nil (below1 _ _)
theorem rowp_of {w W1 w1 : World} {v : Value} {l : List Int} (hr : Rw W1.heap.size w1 v l) (hb : Below W1.heap.size W1 w1) (h1 : Below w.heap.size w W1) : RowP w l (.returned v) w1 :=
  ⟨v, rfl, hr.mono h1.size, below_ch h1 hb⟩
set_option maxRecDepth 100000 in
set_option maxHeartbeats 1000000 in
theorem next_ff (x : Ic) (p : Int) (w : World) (hk0 : 0 ≤ x.k) (hk1 : x.k ≤ 13) (hp0 : 0 ≤ p) (hp1 : p ≤ 1099511627776) (T : Hid (Kinds w)) (hb : hasB x.k.toNat 10 = false) (hc : ens x.k.toNat = false) :
    Calls Tryd.prog 50 #[.agg #[.int .i64 x.k, .int .i64 x.o, .int .i64 x.d, .int .i64 x.a, .int .i64 x.b, .int .i64 x.n, .int .i64 x.t], .int .i64 p] w (RowP w (srt [p + 1])) := by
  have HB := Lib.hid hb
  have hk : x.k.toNat < 14 := by omega
  have ce := T.out.ends x.k.toNat hk
  rw [hc] at ce
  have hsz := T.out.size
  have HT := Lib.hid (T.out.below (below1 w (.cells #[.int .i64 x.k, .int .i64 x.o, .int .i64 x.d, .int .i64 x.a, .int .i64 x.b, .int .i64 x.n, .int .i64 x.t] 37)))
  have hx13 : x.k < 14 := by omega
  clear hb hc
  go_enter Tryd.func50, Tryd.ntmps50
  go_wp2_with (go_at_call 66; (with_reducible refine (kn_t _ _ (by omega) (by omega)).mono ?_); rintro e w' ⟨rfl, rfl⟩)
  go_quiet ((go_at_call 67; exact Calls.quiet_of_same (has_is' HB.out (by omega) (by omega) _ (Lib.hid (HT.out.below (below_drewN (Below.refl _ _) _))))))
  go_wp2_with (go_at_call 68; refine (gather_any [p + 1] _ _ _ (Ga.new _ [p + 1] _ (by simp) _ _ rfl) (by simp)).mono ?_; rintro e1 w1 ⟨v1, rfl, hr1, hb1⟩; have HR1 := Lib.hid hr1; have HB1 := Lib.hid hb1; clear hr1 hb1)
  go_ret
  exact rowp_of HR1.out HB1.out ((below_drewN (below1 _ _) _).alloc (by simp) _)
set_option maxRecDepth 100000 in
set_option maxHeartbeats 1000000 in
theorem next_ft (x : Ic) (p : Int) (w : World) (hk0 : 0 ≤ x.k) (hk1 : x.k ≤ 13) (hp0 : 0 ≤ p) (hp1 : p ≤ 1099511627776) (T : Hid (Kinds w)) (hb : hasB x.k.toNat 10 = false) (hc : ens x.k.toNat = true) :
    Calls Tryd.prog 50 #[.agg #[.int .i64 x.k, .int .i64 x.o, .int .i64 x.d, .int .i64 x.a, .int .i64 x.b, .int .i64 x.n, .int .i64 x.t], .int .i64 p] w (RowP w ([])) := by
  have HB := Lib.hid hb
  have hk : x.k.toNat < 14 := by omega
  have ce := T.out.ends x.k.toNat hk
  rw [hc] at ce
  have hsz := T.out.size
  have HT := Lib.hid (T.out.below (below1 w (.cells #[.int .i64 x.k, .int .i64 x.o, .int .i64 x.d, .int .i64 x.a, .int .i64 x.b, .int .i64 x.n, .int .i64 x.t] 37)))
  have hx13 : x.k < 14 := by omega
  clear hb hc
  go_enter Tryd.func50, Tryd.ntmps50
  go_wp2_with (go_at_call 66; (with_reducible refine (kn_t _ _ (by omega) (by omega)).mono ?_); rintro e w' ⟨rfl, rfl⟩)
  go_quiet ((go_at_call 67; exact Calls.quiet_of_same (has_is' HB.out (by omega) (by omega) _ (Lib.hid (HT.out.below (below_drewN (Below.refl _ _) _))))))
  go_wp2
  go_ret
  exact rowp_nil (below_drewN (below1 _ _) _)
set_option maxRecDepth 100000 in
set_option maxHeartbeats 1000000 in
theorem next_tt (x : Ic) (p : Int) (w : World) (hk0 : 0 ≤ x.k) (hk1 : x.k ≤ 13) (hp0 : 0 ≤ p) (hp1 : p ≤ 1099511627776) (T : Hid (Kinds w)) (hb : hasB x.k.toNat 10 = true) (hc : ens x.k.toNat = true) :
    Calls Tryd.prog 50 #[.agg #[.int .i64 x.k, .int .i64 x.o, .int .i64 x.d, .int .i64 x.a, .int .i64 x.b, .int .i64 x.n, .int .i64 x.t], .int .i64 p] w (RowP w (srt [x.t])) := by
  have HB := Lib.hid hb
  have hk : x.k.toNat < 14 := by omega
  have ce := T.out.ends x.k.toNat hk
  rw [hc] at ce
  have hsz := T.out.size
  have HT := Lib.hid (T.out.below (below1 w (.cells #[.int .i64 x.k, .int .i64 x.o, .int .i64 x.d, .int .i64 x.a, .int .i64 x.b, .int .i64 x.n, .int .i64 x.t] 37)))
  have hx13 : x.k < 14 := by omega
  clear hb hc
  go_enter Tryd.func50, Tryd.ntmps50
  go_wp2_with (go_at_call 66; (with_reducible refine (kn_t _ _ (by omega) (by omega)).mono ?_); rintro e w' ⟨rfl, rfl⟩)
  go_quiet ((go_at_call 67; exact Calls.quiet_of_same (has_is' HB.out (by omega) (by omega) _ (Lib.hid (HT.out.below (below_drewN (Below.refl _ _) _))))))
  go_wp2_with (go_at_call 68; refine (gather_any [x.t] _ _ _ (Ga.new _ [x.t] _ (by simp) _ _ rfl) (by simp)).mono ?_; rintro e1 w1 ⟨v1, rfl, hr1, hb1⟩; have HR1 := Lib.hid hr1; have HB1 := Lib.hid hb1; clear hr1 hb1)
  go_ret
  exact rowp_of HR1.out HB1.out ((below_drewN (below1 _ _) _).alloc (by simp) _)
set_option maxRecDepth 100000 in
set_option maxHeartbeats 1000000 in
theorem next_tf (x : Ic) (p : Int) (w : World) (hk0 : 0 ≤ x.k) (hk1 : x.k ≤ 13) (hp0 : 0 ≤ p) (hp1 : p ≤ 1099511627776) (T : Hid (Kinds w)) (hb : hasB x.k.toNat 10 = true) (hc : ens x.k.toNat = false) :
    Calls Tryd.prog 50 #[.agg #[.int .i64 x.k, .int .i64 x.o, .int .i64 x.d, .int .i64 x.a, .int .i64 x.b, .int .i64 x.n, .int .i64 x.t], .int .i64 p] w (RowP w (srt [p + 1, x.t])) := by
  have HB := Lib.hid hb
  have hk : x.k.toNat < 14 := by omega
  have ce := T.out.ends x.k.toNat hk
  rw [hc] at ce
  have hsz := T.out.size
  have HT := Lib.hid (T.out.below (below1 w (.cells #[.int .i64 x.k, .int .i64 x.o, .int .i64 x.d, .int .i64 x.a, .int .i64 x.b, .int .i64 x.n, .int .i64 x.t] 37)))
  have hx13 : x.k < 14 := by omega
  clear hb hc
  go_enter Tryd.func50, Tryd.ntmps50
  go_wp2_with (go_at_call 66; (with_reducible refine (kn_t _ _ (by omega) (by omega)).mono ?_); rintro e w' ⟨rfl, rfl⟩)
  go_quiet ((go_at_call 67; exact Calls.quiet_of_same (has_is' HB.out (by omega) (by omega) _ (Lib.hid (HT.out.below (below_drewN (Below.refl _ _) _))))))
  go_wp2_with (go_at_call 68; refine (gather_any [p + 1, x.t] _ _ _ (Ga.new _ [p + 1, x.t] _ (by simp) _ _ rfl) (by simp)).mono ?_; rintro e1 w1 ⟨v1, rfl, hr1, hb1⟩; have HR1 := Lib.hid hr1; have HB1 := Lib.hid hb1; clear hr1 hb1)
  go_ret
  exact rowp_of HR1.out HB1.out ((below_drewN (below1 _ _) _).alloc (by simp) _)
/-- ins.Next, of any instruction at any place. -/
theorem next_any (x : Ic) (p : Int) (w : World) (hp0 : 0 ≤ p) (hp1 : p ≤ 1099511627776) (T : Kinds w) : Calls Tryd.prog 50 #[.agg #[.int .i64 x.k, .int .i64 x.o, .int .i64 x.d, .int .i64 x.a, .int .i64 x.b, .int .i64 x.n, .int .i64 x.t], .int .i64 p] w (RowP w (nextM x p)) := by
  unfold nextM
  by_cases h : 0 ≤ x.k ∧ x.k ≤ 13
  · rw [if_pos h]
    cases hb : hasB x.k.toNat 10 <;> cases hc : ens x.k.toNat
    · exact next_ff x p w h.1 h.2 hp0 hp1 (Lib.hid T) hb hc
    · exact next_ft x p w h.1 h.2 hp0 hp1 (Lib.hid T) hb hc
    · exact next_tf x p w h.1 h.2 hp0 hp1 (Lib.hid T) hb hc
    · exact next_tt x p w h.1 h.2 hp0 hp1 (Lib.hid T) hb hc
  · rw [if_neg h]
    exact next_un x p w (by omega)
end Go.Proofs.YtacgfjcdfgdpjaaDoor
