/- LexTells comes out true for every text and number: no condition but what the card itself says of the listed variables. -/
import Derived.Test.YtkmmohhafmnheaaDoorLexAw
import Derived.Test.YtkmmohhafmnheaaDoorLaidB
import Derived.Test.YtkmmohhafmnheaaDoorTie
import Derived.Test.YtkmmohhafmnheaaDoorCards
import Derived.SevenTiedAt
import Derived.Carry
namespace Go.Proofs.YtkmmohhafmnheaaDoor
namespace LexTells
open Go Go.ChangeShapes Go.WideShapes Go.ChangeAt Go.WideMaps Go.WideElems Go.RowKit Go.Sort
open Go.ChangeMaps (open_string shut_string)

theorem line_is {s : ByteArray} {a : Int} {m : Nat} {x y : Int} (ha : 0 ≤ a) (hm : min a.toNat s.size = m) (hs : s.size ≤ 1000000) (hx : lineK s m = x) (hy : colK s m = y) (w : World) :
    Calls Tryd.prog 13 #[.string s, .int .i64 a] w fun e w' => e = .returned (.tuple #[.int .i64 x, .int .i64 y]) ∧ w = w' := by
  obtain ⟨k, rfl⟩ := Int.eq_ofNat_of_zero_le ha
  subst hx
  subst hy
  exact line_any s k m w (Lib.hid hm) hs


theorem rline_is {s : ByteArray} {a : Int} {m : Nat} {x y : Int} (ha : 0 ≤ a) (ha2 : a ≤ 9223372036854775807) (hm : min a.toNat s.size = m) (hs : s.size ≤ 1000000) (hx : lineK s m = x) (hy : colK s m = y) (w : World) :
    Calls Tryd.prog 14 #[.string s, .int .i64 a] w fun e w' => e = .returned (.tuple #[.int .i64 x, .int .i64 y]) ∧ w = w' := by
  obtain ⟨k, rfl⟩ := Int.eq_ofNat_of_zero_le ha
  subst hx
  subst hy
  exact rline_any s k m w hm hs (by omega)
theorem key_is {s : ByteArray} {b : Bool} (h : keyB s.data.toList = b) (hs : s.size ≤ maxLen) (w : World) : Calls Tryd.prog 15 #[.string s] w fun e w' => e = .returned (.bool b) ∧ Below w.heap.size w w' := h ▸ key_any s w hs
theorem rkey_is {s : ByteArray} {b : Bool} (h : keyB s.data.toList = b) (w : World) : Calls Tryd.prog 16 #[.string s] w fun e w' => e = .returned (.bool b) ∧ Below w.heap.size w w' := h ▸ rkey_any s w

theorem walk_long (s : ByteArray) (a : Int) (hl : 2000 < s.size) (hm : s.size ≤ 9223372036854775807) (W : World) (L : Hid (Laid W)) : Calls Tryd.prog 4 #[.string s, .int .i64 a] W fun e w' => e = .returned (.bool true) ∧ Below W.heap.size W w' := by
  go_enter Tryd.func4, Tryd.ntmps4
  go_wp2_with (go_at_call 8; refine (awake_any _ L).mono ?_; rintro e' w1 ⟨rfl, hb1⟩; have hB := hb1; clear hb1)
  go_ret
  exact ⟨rfl, hB⟩
theorem walk_neg (s : ByteArray) (a : Int) (hl : s.size ≤ 2000) (ha : a < 0) (W : World) (L : Hid (Laid W)) : Calls Tryd.prog 4 #[.string s, .int .i64 a] W fun e w' => e = .returned (.bool true) ∧ Below W.heap.size W w' := by
  go_enter Tryd.func4, Tryd.ntmps4
  go_wp2_with (go_at_call 8; refine (awake_any _ L).mono ?_; rintro e' w1 ⟨rfl, hb1⟩; have hB := hb1; clear hb1)
  go_ret
  exact ⟨rfl, hB⟩
theorem walk_in (s : ByteArray) (a x y : Int) (m : Nat) (b : Bool) (hl : s.size ≤ 2000) (ha : 0 ≤ a) (ha2 : a ≤ 9223372036854775807) (hx : Hid (min a.toNat s.size = m ∧ lineK s m = x ∧ colK s m = y)) (hk : Hid (keyB s.data.toList = b)) (W : World) (L : Hid (Laid W)) : Calls Tryd.prog 4 #[.string s, .int .i64 a] W fun e w' => e = .returned (.bool true) ∧ Below W.heap.size W w' := by
  go_enter Tryd.func4, Tryd.ntmps4
  go_wp2_with (first
    | (go_at_call 8; refine (awake_any _ L).mono ?_; rintro e' w1 ⟨rfl, hb1⟩; have hB := hb1; clear hb1)
    | (go_at_call 13; (with_reducible refine (line_is ha hx.out.1 (by omega) hx.out.2.1 hx.out.2.2 _).mono ?_); rintro e' w' ⟨rfl, rfl⟩)
    | (go_at_call 14; (with_reducible refine (rline_is ha ha2 hx.out.1 (by omega) hx.out.2.1 hx.out.2.2 _).mono ?_); rintro e' w' ⟨rfl, rfl⟩)
    | (go_at_call 15; (with_reducible refine (key_is hk.out (by unfold maxLen; omega) _).mono ?_); rintro e' w2 ⟨rfl, hb2⟩; have hB2 := hB.trans (hb2.mono hB.size))
    | (go_at_call 16; (with_reducible refine (rkey_is hk.out _).mono ?_); rintro e' w3 ⟨rfl, hb3⟩; have hB3 := hB2.trans (hb3.mono hB2.size)))
  go_ret
  exact ⟨rfl, hB3⟩

theorem bd_of {a : Int} (h : (Lit.int .i64 a).wf = true) : -9223372036854775808 ≤ a ∧ a ≤ 9223372036854775807 := by
  simp [Lit.wf, IntKind.min, IntKind.max, IntKind.bits, IntKind.signed] at h
  omega
theorem walk (s : ByteArray) (ws : s.size ≤ maxLen) (a : Int) (wa : (Lit.int .i64 a).wf = true) (W : World) (L : Laid W) : Calls Tryd.prog 4 #[.string s, .int .i64 a] W fun e w' => e = .returned (.bool true) ∧ Below W.heap.size W w' := by
  unfold maxLen at ws
  have hb := bd_of wa
  by_cases h : 2000 < s.size
  · exact walk_long s a h (by omega) W (Lib.hid L)
  · by_cases ha : a < 0
    · exact walk_neg s a (by omega) ha W (Lib.hid L)
    · exact walk_in s a _ _ _ _ (by omega) (by omega) hb.2 (Lib.hid ⟨rfl, rfl, rfl⟩) (Lib.hid rfl) W (Lib.hid L)

set_option maxRecDepth 100000 in
theorem lifted (os : Os) (started : os.Started) (H : Type) (enc : TypeId × Value → H) :
    ReturnsInHanded {} Tryd.checked os 4 .any (fun w args => (Rows.lexTellsSpec.pre enc Tryd.prog Tryd.f4 [] false w args ∧ laidMetH Tryd.prog laidL w) ∧ sizedMet enc Tryd.prog Tryd.f4 (OpenSpec.ofChange Rows.lexTellsSpec) false w args)
      (Rows.lexTellsSpec.post enc Tryd.prog Tryd.f4 false true false false) := by
  refine returnsInHanded_of_change_and (C := Tryd.checked) (X := fun w _ => laidMetH Tryd.prog laidL w) (fun _ _ _ hh h => h.of_heap hh) own started (by kernel_rfl) Tryd.func4
    (ChangeSpec.witness_shaped (enc := enc) (C := Tryd.checked) (os := os) (X := fun w _ => laidMetH Tryd.prog laidL w) false (World.doorLaid Tryd.prog 400 os) #[.string ByteArray.empty, .int .i64 0] 8 rfl (World.shaped_of_RefB (by kernel_rfl) (by kernel_rfl)) (by kernel_rfl) (by kernel_rfl) (by kernel_rfl) (door_met os _)) ?_
  intro W base args ds gs before hval0 hW _ _ hL _
  have hval : ∀ (j : Nat) t v, Tryd.f4.params[j]? = some t → args[j]? = some v → Value.okWide Tryd.prog W .any base t v := hval0
  have hW' := hW
  obtain ⟨p, q, hA0, hV, rfl, hfz, hnd⟩ := hW
  have hA : DataW.TrodAll enc Tryd.prog W 0 (fun _ => true) true Tryd.f4.params.toList args.toList ds p := hA0
  rw [Tryd.params4] at hA hval
  obtain ⟨v0, v1, d0, d1, p0, p1, rfl, rfl, rfl, h0, h1⟩ := trodAll_two hA
  obtain ⟨rfl, rfl⟩ := trodVars_none hV
  obtain ⟨s, rfl, rfl, rfl, wx0⟩ := open_string Tryd.underlying9 (hval 0 9 _ rfl rfl) h0
  obtain ⟨a, rfl, rfl, rfl, wx1⟩ := open_int Tryd.underlying3 (hval 1 3 _ rfl rfl) h1
  have hLaid := of_laid hL
  clear hA0 hval0
  simp only [List.append_nil] at hW'
  refine (walk s wx0 a wx1 W hLaid).mono fun e W' ⟨he, hb⟩ => ?_
  subst he
  exact ⟨_, rfl, _, _, _, [], [], [], hW', trodAll_mk1 (shut_bool Tryd.underlying4 _), trodAll_mk2 (shut_string Tryd.underlying9 wx0) (shut_int Tryd.underlying3 wx1), rfl, hb.frame _, fun h => by cases h⟩

theorem said : Rows.LexTellsSaid :=
  OpenClaim.holds_of_wide 4 Tryd.f4 rfl rfl rfl rfl rfl rfl rfl ⟨rfl, rfl, rfl, rfl, rfl⟩ rfl rfl rfl rfl rfl (by kernel_rfl) Tryd.func4 (by kernel_rfl)
    (of_decide_eq_true (by kernel_rfl)) (by unfold Func.isWrapper; first | (rw [if_pos (by decide +kernel)]; kernel_rfl) | (rw [if_neg (by decide +kernel)]; exact ⟨rfl, rfl⟩))
    (fun os started H enc _ => lifted os started H enc)
end LexTells

theorem lexTells_card_holds : Rows.LexTellsCardSaid :=
  Claim7.holds_tied_plain_at .later [] _ true _ true
    LexTells.said (fun _ h => by cases h) (by kernel_rfl) (fun _ h => by cases h) lexTells_row_tie rfl ⟨rfl, rfl⟩ (by kernel_rfl) rfl
    (fun f fn hf hfn => by
      obtain rfl : f = 4 := Option.some.inj ((show Tryd.prog.funcNamed "paling/palinglaw02.LexTells" = some 4 by kernel_rfl).symm.trans hf) |>.symm
      obtain rfl : fn = Tryd.f4 := (Option.some.inj (Tryd.func4.symm.trans hfn)).symm
      exact ⟨by kernel_rfl, fun j t ht => by
        rw [Tryd.params4] at ht
        have hm : t ∈ [9, 3] := by simpa using Array.mem_of_getElem? ht
        have hall : ([9, 3].all fun u => !Tryd.prog.wantsStandIn u) = true := by kernel_rfl
        exact (show Tryd.prog.wantsStandIn t = false by simpa using List.all_eq_true.1 hall t hm)⟩)
    (by kernel_rfl)
#print axioms lexTells_card_holds
end Go.Proofs.YtkmmohhafmnheaaDoor
