/- InsChecks comes out true for every code and every two numbers: no condition but what the card itself says of the listed variables. -/
import Derived.Test.YtjjjdghkeogljaaDoorAwB
import Derived.Test.YtjjjdghkeogljaaDoorRcd
import Derived.Test.YtjjjdghkeogljaaDoorLaidI
import Derived.Test.YtjjjdghkeogljaaDoorOpn
import Derived.Test.YtjjjdghkeogljaaDoorTie
import Derived.Test.YtjjjdghkeogljaaDoorCards
import Derived.SevenTiedAt
import Derived.Carry
namespace Go.Proofs.YtjjjdghkeogljaaDoor
set_option linter.unusedSimpArgs false
set_option linter.unusedVariables false
namespace InsChecks
open Go Go.ChangeShapes Go.WideShapes Go.ChangeAt Go.WideMaps Go.WideElems Go.RowKit Go.Sort
open Go.ChangeMaps (open_string shut_string)

set_option maxRecDepth 100000 in
set_option maxHeartbeats 1000000 in
theorem walk_long (p : Option Addr) (n cap : Nat) (r l : Int) (h : 5000 < n) (W : World) (L : Hid (Laid W)) : Calls Tryd.prog 4 #[.slice p n cap, .int .i64 r, .int .i64 l] W fun e w' => e = .returned (.bool true) ∧ Below W.heap.size W w' := by
  go_enter Tryd.func4, Tryd.ntmps4
  go_wp2_with (go_at_call 7; (with_reducible refine (awake_any _ L).mono ?_); rintro e' w1 ⟨rfl, hb1⟩; have hB := hb1; clear hb1)
  go_ret
  exact ⟨rfl, hB⟩
set_option maxRecDepth 100000 in
set_option maxHeartbeats 2000000 in
theorem walk_short {W : World} (c : List Ic) (p : Option Addr) (n cap : Nat) (hn : Hid (c.length = n)) (hc : Hid (CodeAt W p c)) (r l : Int) (h : n ≤ 5000) (L : Hid (Laid W)) (b : Bool) (hb : Hid (checkB c r l = b)) : Calls Tryd.prog 4 #[.slice p n cap, .int .i64 r, .int .i64 l] W fun e w' => e = .returned (.bool true) ∧ Below W.heap.size W w' := by
  obtain ⟨t, ht⟩ : ∃ t, bst (textTo c n) = t := ⟨_, rfl⟩
  have HT1 : Hid (∀ X, Below W.heap.size W X → Calls Tryd.prog 19 #[.slice p n cap] X fun e w' => e = .returned (.string t) ∧ Below X.heap.size X w') := Lib.hid (fun X hX => ht ▸ text_any c p n cap X hn h (Lib.hid (L.out.below hX)) (Lib.hid (hc.out.stay hX)))
  have HT2 : Hid (∀ X, Below W.heap.size W X → Calls Tryd.prog 20 #[.slice p n cap] X fun e w' => e = .returned (.string t) ∧ Below X.heap.size X w') := Lib.hid (fun X hX => ht ▸ rtext_any c p n cap X hn h (Lib.hid (hc.out.stay hX)))
  have HC1 : Hid (∀ X, Below W.heap.size W X → Calls Tryd.prog 17 #[.slice p n cap, .agg #[.int .i64 r, .int .i64 l]] X fun e w' => e = .returned (.bool b) ∧ Below X.heap.size X w') := Lib.hid (fun X hX => check_is hb.out hn.out X (L.out.below hX).kin (hc.out.stay hX))
  have HC2 : Hid (∀ X, Below W.heap.size W X → Calls Tryd.prog 18 #[.slice p n cap, .int .i64 r, .int .i64 l] X fun e w' => e = .returned (.bool b) ∧ Below X.heap.size X w') := Lib.hid (fun X hX => rchk_is hb.out hn.out X (hc.out.stay hX))
  clear ht
  cases b
  all_goals
    go_enter Tryd.func4, Tryd.ntmps4
    go_wp2_with (first
      | (go_at_call 7; (with_reducible refine (awake_any _ L).mono ?_); rintro e' w1 ⟨rfl, hb1⟩; have HB1 := Lib.hid hb1; clear hb1)
      | (go_at_call 17; (with_reducible refine (HC1.out _ HB1.out).mono ?_); rintro e' w2 ⟨rfl, hb2⟩; have HB2 := Lib.hid (below_ch HB1.out hb2); clear hb2)
      | (go_at_call 18; (with_reducible refine (HC2.out _ HB2.out).mono ?_); rintro e' w3 ⟨rfl, hb3⟩; have HB3 := Lib.hid (below_ch HB2.out hb3); clear hb3)
      | (go_at_call 19; (with_reducible refine (HT1.out _ HB3.out).mono ?_); rintro e' w4 ⟨rfl, hb4⟩; have HB4 := Lib.hid (below_ch HB3.out hb4); clear hb4)
      | (go_at_call 20; (with_reducible refine (HT2.out _ HB4.out).mono ?_); rintro e' w5 ⟨rfl, hb5⟩; have HB5 := Lib.hid (below_ch HB4.out hb5); clear hb5))
    go_ret
    exact ⟨rfl, HB5.out⟩
theorem walk {W : World} (c : List Ic) (p : Option Addr) (n cap : Nat) (hn : c.length = n) (hc : CodeAt W p c) (r : Int) (_ : (Lit.int .i64 r).wf = true) (l : Int) (_ : (Lit.int .i64 l).wf = true) (W0 : World) (L : Laid W0) (e : W0 = W := by rfl) : Calls Tryd.prog 4 #[.slice p n cap, .int .i64 r, .int .i64 l] W0 fun e w' => e = .returned (.bool true) ∧ Below W0.heap.size W0 w' := by
  subst e
  by_cases h : 5000 < n
  · exact walk_long p n cap r l h W0 (Lib.hid L)
  · exact walk_short c p n cap (Lib.hid hn) (Lib.hid hc) r l (by omega) (Lib.hid L) _ (Lib.hid rfl)

theorem out_laid : laidOutB Tryd.prog = true := by kernel_rfl
set_option maxRecDepth 100000 in
theorem lifted (os : Os) (started : os.Started) (H : Type) (enc : TypeId × Value → H) :
    ReturnsInHanded {} Tryd.checked os 4 .any (fun w args => (Rows.insChecksSpec.pre enc Tryd.prog Tryd.f4 [] false w args ∧ laidMetH Tryd.prog laidL w) ∧ sizedMet enc Tryd.prog Tryd.f4 (OpenSpec.ofChange Rows.insChecksSpec) false w args)
      (Rows.insChecksSpec.post enc Tryd.prog Tryd.f4 false true false false) := by
  refine returnsInHanded_of_change_and (C := Tryd.checked) (X := fun w _ => laidMetH Tryd.prog laidL w) (fun _ _ _ hh h => h.of_heap hh) own started (by kernel_rfl) Tryd.func4
    (ChangeSpec.witness_shaped (enc := enc) (C := Tryd.checked) (os := os) (X := fun w _ => laidMetH Tryd.prog laidL w) false (World.doorLaid Tryd.prog 400 os) #[.slice none 0 0, .int .i64 0, .int .i64 0] 8 rfl (World.shaped_of_RefB (by kernel_rfl) (by kernel_rfl)) (by kernel_rfl) (by kernel_rfl) (by kernel_rfl) (door_met os _)) ?_
  intro W base args ds gs before hval0 hW _ _ hL _
  have hval : ∀ (j : Nat) t v, Tryd.f4.params[j]? = some t → args[j]? = some v → Value.okWide Tryd.prog W .any base t v := hval0
  have hW' := hW
  obtain ⟨p, q, hA0, hV, rfl, hfz, hnd⟩ := hW
  have hA : DataW.TrodAll enc Tryd.prog W 0 (fun _ => true) true Tryd.f4.params.toList args.toList ds p := hA0
  rw [Tryd.params4] at hA hval
  obtain ⟨v0, vs0, d0, ds0, p0, q0, hargs, rfl, rfl, h0, r0⟩ := trodAll_cons hA
  obtain ⟨v1, vs1, d1, ds1, p1, q1, rfl, rfl, rfl, h1, r1⟩ := trodAll_cons r0
  obtain ⟨v2, vs2, d2, ds2, p2, q2, rfl, rfl, rfl, h2, r2⟩ := trodAll_cons r1
  obtain ⟨rfl, rfl, rfl⟩ := trodAll_nil r2
  obtain rfl : args = #[v0, v1, v2] := by cases args; simp_all
  obtain ⟨rfl, rfl⟩ := trodVars_none hV
  obtain ⟨a0, n0, c0, rfl⟩ := okWide_slice Tryd.underlying32 (hval 0 32 v0 rfl rfl)
  obtain ⟨l0, hl0, hc0⟩ := open_code h0
  have hu1 := h1
  obtain ⟨i1, rfl, -, -, wx1⟩ := open_int Tryd.underlying3 (hval 1 3 v1 rfl rfl) hu1
  have hu2 := h2
  obtain ⟨i2, rfl, -, -, wx2⟩ := open_int Tryd.underlying3 (hval 2 3 v2 rfl rfl) hu2
  have hlt0 : ∀ x ∈ p0, x.block < W.heap.size := fun x hx => by simpa using hW'.lt x (by simp [hx])
  have hlt1 : ∀ x ∈ p1, x.block < W.heap.size := fun x hx => by simpa using hW'.lt x (by simp [hx])
  have hlt2 : ∀ x ∈ p2, x.block < W.heap.size := fun x hx => by simpa using hW'.lt x (by simp [hx])
  have hLaid := of_laid hL
  clear hA0 hval0
  simp only [List.append_nil] at hW'
  refine (walk l0 a0 n0 c0 hl0 hc0 i1 wx1 i2 wx2 W hLaid).mono fun e W' ⟨he, hb⟩ => ?_
  subst he
  exact ⟨_, rfl, _, _, _, [], _, [], hW', trodAll_mk1 (shut_bool Tryd.underlying4 _), (trodAll_cons_mk (Below.trod out_laid (by kernel_rfl) (of_decide_eq_true (by kernel_rfl)) h0 hb hlt0) (trodAll_cons_mk (Below.trod out_laid (by kernel_rfl) (of_decide_eq_true (by kernel_rfl)) h1 hb hlt1) (trodAll_cons_mk (Below.trod out_laid (by kernel_rfl) (of_decide_eq_true (by kernel_rfl)) h2 hb hlt2) trodAll_mk0))), rfl, hb.frame _, fun h => by cases h⟩

theorem said : Rows.InsChecksSaid :=
  OpenClaim.holds_of_wide 4 Tryd.f4 rfl rfl rfl rfl rfl rfl rfl ⟨rfl, rfl, rfl, rfl, rfl⟩ rfl rfl rfl rfl rfl (by kernel_rfl) Tryd.func4 (by kernel_rfl)
    (of_decide_eq_true (by kernel_rfl)) (by unfold Func.isWrapper; first | (rw [if_pos (by decide +kernel)]; kernel_rfl) | (rw [if_neg (by decide +kernel)]; exact ⟨rfl, rfl⟩))
    (fun os started H enc _ => lifted os started H enc)
end InsChecks

theorem insChecks_card_holds : Rows.InsChecksCardSaid :=
  Claim7.holds_tied_plain_at .later [] _ true _ false
    InsChecks.said (fun _ h => by cases h) (by kernel_rfl) (fun _ h => by cases h) insChecks_row_tie rfl ⟨rfl, rfl⟩ (by kernel_rfl) rfl
    (fun f fn hf hfn => by
      obtain rfl : f = 4 := Option.some.inj ((show Tryd.prog.funcNamed "paling/palinglaw11.InsChecks" = some 4 by kernel_rfl).symm.trans hf) |>.symm
      obtain rfl : fn = Tryd.f4 := (Option.some.inj (Tryd.func4.symm.trans hfn)).symm
      exact ⟨by kernel_rfl, fun j t ht => by
        rw [Tryd.params4] at ht
        have hm : t ∈ [32, 3, 3] := by simpa using Array.mem_of_getElem? ht
        have hall : ([32, 3, 3].all fun u => !Tryd.prog.wantsStandIn u) = true := by kernel_rfl
        exact (show Tryd.prog.wantsStandIn t = false by simpa using List.all_eq_true.1 hall t hm)⟩)
    (by kernel_rfl)
#print axioms insChecks_card_holds
end Go.Proofs.YtjjjdghkeogljaaDoor
