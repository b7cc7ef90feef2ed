/- LexLines comes out true for every text: no condition but what the card itself says of the listed variables. -/
import Derived.Test.YtkmmohhafmnheaaDoorLexAw
import Derived.Test.YtkmmohhafmnheaaDoorLaidB
import Derived.Test.YtkmmohhafmnheaaDoorTie
import Derived.Test.YtkmmohhafmnheaaDoorCards
import Derived.SevenTiedAt
import Derived.Carry
namespace Go.Proofs.YtkmmohhafmnheaaDoor
namespace LexLines
open Go Go.ChangeShapes Go.WideShapes Go.ChangeAt Go.WideMaps Go.WideElems Go.RowKit Go.Sort
open Go.ChangeMaps (open_string shut_string)

theorem line_is {s : ByteArray} {a : Int} {m : Nat} {x y : Int} (ha : 0 ≤ a) (hm : min a.toNat s.size = m) (hs : s.size ≤ 1000000) (hx : lineK s m = x) (hy : colK s m = y) (w : World) :
    Calls Tryd.prog 13 #[.string s, .int .i64 a] w fun e w' => e = .returned (.tuple #[.int .i64 x, .int .i64 y]) ∧ w = w' := by
  obtain ⟨k, rfl⟩ := Int.eq_ofNat_of_zero_le ha
  subst hx
  subst hy
  exact line_any s k m w (Lib.hid hm) hs


theorem walk_long (s : ByteArray) (hl : 1000 < s.size) (hm : s.size ≤ 9223372036854775807) (W : World) (L : Hid (Laid W)) : Calls Tryd.prog 7 #[.string s] W fun e w' => e = .returned (.bool true) ∧ Below W.heap.size W w' := by
  go_enter Tryd.func7, Tryd.ntmps7
  go_wp2_with (go_at_call 8; refine (awake_any _ L).mono ?_; rintro e' w1 ⟨rfl, hb1⟩; have hB := hb1; clear hb1)
  go_ret
  exact ⟨rfl, hB⟩

set_option maxRecDepth 100000 in
set_option maxHeartbeats 1000000 in
theorem walk_short (s : ByteArray) (hl : s.size ≤ 1000) (W : World) (L : Hid (Laid W)) : Calls Tryd.prog 7 #[.string s] W fun e w' => e = .returned (.bool true) ∧ Below W.heap.size W w' := by
  go_enter Tryd.func7, Tryd.ntmps7
  go_wp2_with (first
    | (go_at_call 8; refine (awake_any _ L).mono ?_; rintro e' w1 ⟨rfl, hb1⟩; have hB := hb1; clear hb1)
    | (go_at_call 13; (with_reducible refine (line_is (m := 0) (x := 1) (y := 1) (by omega) (by simp) (by omega) rfl rfl _).mono ?_); rintro e' w' ⟨rfl, rfl⟩))
  go_loop [4, 5, 6] (fun l c i => ∃ (k : Nat) (a b : Int), i = .int .i64 k ∧ l = .int .i64 a ∧ c = .int .i64 b ∧ k ≤ s.size ∧ 1 ≤ a ∧ a ≤ k + 1 ∧ 1 ≤ b ∧ b ≤ k + 1 ∧ Hid (lineK s k = a ∧ colK s k = b)) (fun _ _ i => s.size - (intOf i).toNat)
  case atStart => exact ⟨0, 1, 1, rfl, rfl, rfl, Nat.zero_le _, by omega, by omega, by omega, by omega, Lib.hid ⟨rfl, rfl⟩⟩
  case round =>
    obtain ⟨k, a, b, rfl, rfl, rfl, hk, ha0, ha1, hb0, hb1, HE⟩ := hrel
    by_cases hlt : k < s.size
    · have HM : Hid (min ((k : Int) + 1).toNat s.size = k + 1) := Lib.hid (by omega)
      by_cases hc : (s[k]'hlt) = 10
      · have hq : (((s[k]'hlt).toNat : Int) == 10) = true := by rw [hc]; rfl
        have hq2 : (((s[k]'hlt).toNat : Int) != 10) = false := by simp [bne, hq]
        have hst := step_nl s k hlt hc
        have HE2 : Hid (lineK s (k + 1) = a + 1 ∧ colK s (k + 1) = 1) := Lib.hid ⟨by rw [hst.1, HE.out.1], hst.2⟩
        clear hc hst
        go_wp2_with (go_at_call 13; (with_reducible refine (line_is (by omega) HM.out (by omega) HE2.out.1 HE2.out.2 _).mono ?_); rintro e' w' ⟨rfl, rfl⟩)
        go_round
        case rel => exact ⟨k + 1, a + 1, 1, by go_num, rfl, rfl, by omega, by omega, by omega, by omega, by omega, HE2⟩
        case measure => simp [intOf]; omega
      · have hq : (((s[k]'hlt).toNat : Int) == 10) = false := by
          rw [beq_eq_false_iff_ne]
          intro h
          exact hc (UInt8.toNat_inj.1 (by show _ = 10; omega))
        have hq2 : (((s[k]'hlt).toNat : Int) != 10) = true := by simp [bne, hq]
        have hst := step_on s k hlt hc
        have HE2 : Hid (lineK s (k + 1) = a ∧ colK s (k + 1) = b + 1) := Lib.hid ⟨by rw [hst.1, HE.out.1], by rw [hst.2, HE.out.2]⟩
        clear hc hst
        go_wp2_with (go_at_call 13; (with_reducible refine (line_is (by omega) HM.out (by omega) HE2.out.1 HE2.out.2 _).mono ?_); rintro e' w' ⟨rfl, rfl⟩)
        go_round
        case rel => exact ⟨k + 1, a, b + 1, by go_num, rfl, rfl, by omega, by omega, by omega, by omega, by omega, HE2⟩
        case measure => simp [intOf]; omega
    · obtain rfl : k = s.size := by omega
      have HM : Hid (min ((s.size : Int) + 5).toNat s.size = s.size) := Lib.hid (by omega)
      go_wp2_with (go_at_call 13; (with_reducible refine (line_is (by omega) HM.out (by omega) HE.out.1 HE.out.2 _).mono ?_); rintro e' w' ⟨rfl, rfl⟩)
      go_ret
      exact ⟨rfl, hB⟩

theorem walk (s : ByteArray) (ws : s.size ≤ maxLen) (W : World) (L : Laid W) : Calls Tryd.prog 7 #[.string s] W fun e w' => e = .returned (.bool true) ∧ Below W.heap.size W w' := by
  unfold maxLen at ws
  by_cases h : 1000 < s.size
  · exact walk_long s h (by omega) W (Lib.hid L)
  · exact walk_short s (by omega) W (Lib.hid L)

set_option maxRecDepth 100000 in
theorem lifted (os : Os) (started : os.Started) (H : Type) (enc : TypeId × Value → H) :
    ReturnsInHanded {} Tryd.checked os 7 .any (fun w args => (Rows.lexLinesSpec.pre enc Tryd.prog Tryd.f7 [] false w args ∧ laidMetH Tryd.prog laidL w) ∧ sizedMet enc Tryd.prog Tryd.f7 (OpenSpec.ofChange Rows.lexLinesSpec) false w args)
      (Rows.lexLinesSpec.post enc Tryd.prog Tryd.f7 false true false false) := by
  refine returnsInHanded_of_change_and (C := Tryd.checked) (X := fun w _ => laidMetH Tryd.prog laidL w) (fun _ _ _ hh h => h.of_heap hh) own started (by kernel_rfl) Tryd.func7
    (ChangeSpec.witness_shaped (enc := enc) (C := Tryd.checked) (os := os) (X := fun w _ => laidMetH Tryd.prog laidL w) false (World.doorLaid Tryd.prog 400 os) #[.string ByteArray.empty] 8 rfl (World.shaped_of_RefB (by kernel_rfl) (by kernel_rfl)) (by kernel_rfl) (by kernel_rfl) (by kernel_rfl) (door_met os _)) ?_
  intro W base args ds gs before hval0 hW _ _ hL _
  have hval : ∀ (j : Nat) t v, Tryd.f7.params[j]? = some t → args[j]? = some v → Value.okWide Tryd.prog W .any base t v := hval0
  have hW' := hW
  obtain ⟨p, q, hA0, hV, rfl, hfz, hnd⟩ := hW
  have hA : DataW.TrodAll enc Tryd.prog W 0 (fun _ => true) true Tryd.f7.params.toList args.toList ds p := hA0
  rw [Tryd.params7] at hA hval
  obtain ⟨v0, d0, rfl, rfl, h0⟩ := trodAll_one hA
  obtain ⟨rfl, rfl⟩ := trodVars_none hV
  obtain ⟨s, rfl, rfl, rfl, wx0⟩ := open_string Tryd.underlying9 (hval 0 9 _ rfl rfl) h0
  have hLaid := of_laid hL
  clear hA0 hval0
  simp only [List.append_nil] at hW'
  refine (walk s wx0 W hLaid).mono fun e W' ⟨he, hb⟩ => ?_
  subst he
  exact ⟨_, rfl, _, _, _, [], [], [], hW', trodAll_mk1 (shut_bool Tryd.underlying4 _), trodAll_mk1 (shut_string Tryd.underlying9 wx0), rfl, hb.frame _, fun h => by cases h⟩

theorem said : Rows.LexLinesSaid :=
  OpenClaim.holds_of_wide 7 Tryd.f7 rfl rfl rfl rfl rfl rfl rfl ⟨rfl, rfl, rfl, rfl, rfl⟩ rfl rfl rfl rfl rfl (by kernel_rfl) Tryd.func7 (by kernel_rfl)
    (of_decide_eq_true (by kernel_rfl)) (by unfold Func.isWrapper; first | (rw [if_pos (by decide +kernel)]; kernel_rfl) | (rw [if_neg (by decide +kernel)]; exact ⟨rfl, rfl⟩))
    (fun os started H enc _ => lifted os started H enc)
end LexLines

theorem lexLines_card_holds : Rows.LexLinesCardSaid :=
  Claim7.holds_tied_plain_at .later [] _ true _ true
    LexLines.said (fun _ h => by cases h) (by kernel_rfl) (fun _ h => by cases h) lexLines_row_tie rfl ⟨rfl, rfl⟩ (by kernel_rfl) rfl
    (fun f fn hf hfn => by
      obtain rfl : f = 7 := Option.some.inj ((show Tryd.prog.funcNamed "paling/palinglaw02.LexLines" = some 7 by kernel_rfl).symm.trans hf) |>.symm
      obtain rfl : fn = Tryd.f7 := (Option.some.inj (Tryd.func7.symm.trans hfn)).symm
      exact ⟨by kernel_rfl, fun j t ht => by
        rw [Tryd.params7] at ht
        have hm : t ∈ [9] := by simpa using Array.mem_of_getElem? ht
        have hall : ([9].all fun u => !Tryd.prog.wantsStandIn u) = true := by kernel_rfl
        exact (show Tryd.prog.wantsStandIn t = false by simpa using List.all_eq_true.1 hall t hm)⟩)
    (by kernel_rfl)
#print axioms lexLines_card_holds
end Go.Proofs.YtkmmohhafmnheaaDoor
