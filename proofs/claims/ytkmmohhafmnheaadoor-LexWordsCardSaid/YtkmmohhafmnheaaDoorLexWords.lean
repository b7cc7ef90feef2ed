/- LexWords comes out true for every text: no condition but what the card itself says of the listed variables. -/
import Derived.Test.YtkmmohhafmnheaaDoorLexAw
import Derived.Test.YtkmmohhafmnheaaDoorPlain
import Derived.Test.YtkmmohhafmnheaaDoorLaidB
import Derived.Test.YtkmmohhafmnheaaDoorTie
import Derived.Test.YtkmmohhafmnheaaDoorCards
import Derived.SevenTiedAt
import Derived.Carry
namespace Go.Proofs.YtkmmohhafmnheaaDoor
namespace LexWords
open Go Go.ChangeShapes Go.WideShapes Go.ChangeAt Go.WideMaps Go.WideElems Go.RowKit Go.Sort
open Go.ChangeMaps (open_string shut_string)


theorem walk_long (s : ByteArray) (hl : 20000 < s.size) (hm : s.size ≤ 9223372036854775807) (W : World) (L : Hid (Laid W)) : Calls Tryd.prog 3 #[.string s] W fun e w' => e = .returned (.bool true) ∧ Below W.heap.size W w' := by
  go_enter Tryd.func3, Tryd.ntmps3
  go_wp2_with (go_at_call 8; refine (awake_any _ L).mono ?_; rintro e' w1 ⟨rfl, hb1⟩; have hB := hb1; clear hb1)
  go_ret
  exact ⟨rfl, hB⟩

/-- Both calls end with one error. -/
def BothErr (s : ByteArray) (e0 : Int) (a0 : Int) : Prop :=
  (∀ w : World, Laid w → Calls Tryd.prog 9 #[.string s] w fun e w' => e = .returned (.tuple #[.slice none 0 0, .int .i64 e0, .int .i64 a0]) ∧ Below w.heap.size w w') ∧
  (∀ w : World, Calls Tryd.prog 10 #[.string s] w fun e w' => e = .returned (.tuple #[.slice none 0 0, .int .i64 e0, .int .i64 a0]) ∧ Below w.heap.size w w')

theorem BothErr.code {s : ByteArray} {e0 a0 : Int} (h : BothErr s e0 a0) : ∀ w : World, Laid w → Calls Tryd.prog 9 #[.string s] w fun e w' => e = .returned (.tuple #[.slice none 0 0, .int .i64 e0, .int .i64 a0]) ∧ Below w.heap.size w w' := h.1
theorem BothErr.doc {s : ByteArray} {e0 a0 : Int} (h : BothErr s e0 a0) : ∀ w : World, Calls Tryd.prog 10 #[.string s] w fun e w' => e = .returned (.tuple #[.slice none 0 0, .int .i64 e0, .int .i64 a0]) ∧ Below w.heap.size w w' := h.2
theorem walk_err (s : ByteArray) (e0 a0 : Int) (hl : s.size ≤ 20000) (HE : Hid (BothErr s e0 a0)) (W : World) (L : Hid (Laid W)) : Calls Tryd.prog 3 #[.string s] W fun e w' => e = .returned (.bool true) ∧ Below W.heap.size W w' := by
  go_enter Tryd.func3, Tryd.ntmps3
  go_wp2_with (first
    | (go_at_call 8; refine (awake_any _ L).mono ?_; rintro e' w1 ⟨rfl, hb1⟩; have hB := hb1; clear hb1)
    | (go_at_call 9; (with_reducible refine (HE.out.code _ (L.out.below hB)).mono ?_); rintro e' w2 ⟨rfl, hb2⟩; have hB2 := hB.trans (hb2.mono hB.size))
    | (go_at_call 10; (with_reducible refine (HE.out.doc _).mono ?_); rintro e' w3 ⟨rfl, hb3⟩; have hB3 := hB2.trans (hb3.mono hB2.size))
    | (go_at_call 12; (with_reducible refine (plain_none _).mono ?_); rintro e' w4 ⟨rfl, rfl⟩)
    | (go_at_call 11; (with_reducible refine (same_none _).mono ?_); rintro e' w5 ⟨rfl, hb5⟩; have hB5 := hB3.trans (hb5.mono hB3.size)))
  go_ret
  exact ⟨rfl, hB5⟩

/-- plain, of a row of words: a row of the same. -/
theorem plain_row (g cap B : Nat) (X : List Wd) (w : World) (hlen : X.length ≤ 20000) (h0 : 0 < X.length) (hown : w.ownsRow B 37 4 (.slice (some ⟨g, 0, none⟩) X.length cap) X.length (cellsW X)) :
    Calls Tryd.prog 12 #[.slice (some ⟨g, 0, none⟩) X.length cap] w fun e w' => ∃ g2 cap2, e = .returned (.slice (some ⟨g2, 0, none⟩) X.length cap2) ∧ w'.ownsRow w.heap.size 46 4 (.slice (some ⟨g2, 0, none⟩) X.length cap2) X.length (cellsW X) ∧ Below w.heap.size w w' :=
  (plain_some g cap B X w hlen hown).mono fun e w' ⟨⟨v, e1, e2⟩, hb⟩ => by
    obtain ⟨g2, cap2, e3, _⟩ := e2.form h0
    subst e3
    exact ⟨g2, cap2, e1, e2, hb⟩

theorem walk_ok (s : ByteArray) (X : List Wd) (hl : s.size ≤ 16384) (h0 : 0 < X.length) (hX : X.length ≤ 20000) (hS : Hid (Sc numO s.data.toList 0 X none)) (W : World) (L : Hid (Laid W)) : Calls Tryd.prog 3 #[.string s] W fun e w' => e = .returned (.bool true) ∧ Below W.heap.size W w' := by
  go_enter Tryd.func3, Tryd.ntmps3
  go_wp2_with (first
    | (go_at_call 8; refine (awake_any _ L).mono ?_; rintro e' w1 ⟨rfl, hb1⟩; have hB := hb1; clear hb1)
    | (go_at_call 9; (with_reducible refine (words_ok s _ (Lib.hid (L.out.below hB)) hl X hS).mono ?_); rintro e' w2 ⟨⟨g, cap, rfl, ho⟩, hb2⟩; have hB2 := hB.trans (hb2.mono hB.size))
    | (go_at_call 10; (with_reducible refine (rwords_ok s _ hl X hS).mono ?_); rintro e' w3 ⟨⟨g2, cap2, rfl, ho2⟩, hb3⟩; have hB3 := hB2.trans (hb3.mono hB2.size); have ho3 := own_below ho hb3)
    | (go_at_call 12; (with_reducible refine (plain_row g cap _ X _ hX h0 ho3).mono ?_); rintro e' w4 ⟨g3, cap3, rfl, ho4, hb4⟩; have hB4 := hB3.trans (hb4.mono hB3.size); have ho5 := own_below ho2 hb4)
    | (go_at_call 11; (with_reducible refine (same_some g3 cap3 g2 cap2 _ _ X _ hX ho4 ho5).mono ?_); rintro e' w5 ⟨rfl, hb5⟩; have hB5 := hB4.trans (hb5.mono hB4.size)))
  go_ret
  exact ⟨rfl, hB5⟩

theorem walk (s : ByteArray) (ws : s.size ≤ maxLen) (W : World) (L : Laid W) : Calls Tryd.prog 3 #[.string s] W fun e w' => e = .returned (.bool true) ∧ Below W.heap.size W w' := by
  unfold maxLen at ws
  by_cases h : 20000 < s.size
  · exact walk_long s h (by omega) W (Lib.hid L)
  · by_cases h2 : 16384 < s.size
    · exact walk_err s 2 0 (by omega) (Lib.hid ⟨fun w _ => words_big s w h2 (by omega), fun w => rwords_big s w h2 (by omega)⟩) W (Lib.hid L)
    · obtain ⟨X, r, hS⟩ := Sc.total numO _ s.data.toList 0 (Nat.le_refl _)
      match r, hS with
      | none, hS =>
        have hlen := hS.few rfl
        have e : s.data.toList.length = s.size := rfl
        exact walk_ok s X (by omega) (hS.some_words rfl) (by omega) (Lib.hid hS) W (Lib.hid L)
      | some (e0, a0), hS => exact walk_err s e0 a0 (by omega) (Lib.hid ⟨fun w hw => words_err s w (Lib.hid hw) (by omega) X e0 a0 (Lib.hid hS), fun w => rwords_err s w (by omega) X e0 a0 (Lib.hid hS)⟩) W (Lib.hid L)

set_option maxRecDepth 100000 in
theorem lifted (os : Os) (started : os.Started) (H : Type) (enc : TypeId × Value → H) :
    ReturnsInHanded {} Tryd.checked os 3 .any (fun w args => (Rows.lexWordsSpec.pre enc Tryd.prog Tryd.f3 [] false w args ∧ laidMetH Tryd.prog laidL w) ∧ sizedMet enc Tryd.prog Tryd.f3 (OpenSpec.ofChange Rows.lexWordsSpec) false w args)
      (Rows.lexWordsSpec.post enc Tryd.prog Tryd.f3 false true false false) := by
  refine returnsInHanded_of_change_and (C := Tryd.checked) (X := fun w _ => laidMetH Tryd.prog laidL w) (fun _ _ _ hh h => h.of_heap hh) own started (by kernel_rfl) Tryd.func3
    (ChangeSpec.witness_shaped (enc := enc) (C := Tryd.checked) (os := os) (X := fun w _ => laidMetH Tryd.prog laidL w) false (World.doorLaid Tryd.prog 400 os) #[.string ByteArray.empty] 8 rfl (World.shaped_of_RefB (by kernel_rfl) (by kernel_rfl)) (by kernel_rfl) (by kernel_rfl) (by kernel_rfl) (door_met os _)) ?_
  intro W base args ds gs before hval0 hW _ _ hL _
  have hval : ∀ (j : Nat) t v, Tryd.f3.params[j]? = some t → args[j]? = some v → Value.okWide Tryd.prog W .any base t v := hval0
  have hW' := hW
  obtain ⟨p, q, hA0, hV, rfl, hfz, hnd⟩ := hW
  have hA : DataW.TrodAll enc Tryd.prog W 0 (fun _ => true) true Tryd.f3.params.toList args.toList ds p := hA0
  rw [Tryd.params3] at hA hval
  obtain ⟨v0, d0, rfl, rfl, h0⟩ := trodAll_one hA
  obtain ⟨rfl, rfl⟩ := trodVars_none hV
  obtain ⟨s, rfl, rfl, rfl, wx0⟩ := open_string Tryd.underlying9 (hval 0 9 _ rfl rfl) h0
  have hLaid := of_laid hL
  clear hA0 hval0
  simp only [List.append_nil] at hW'
  refine (walk s wx0 W hLaid).mono fun e W' ⟨he, hb⟩ => ?_
  subst he
  exact ⟨_, rfl, _, _, _, [], [], [], hW', trodAll_mk1 (shut_bool Tryd.underlying4 _), trodAll_mk1 (shut_string Tryd.underlying9 wx0), rfl, hb.frame _, fun h => by cases h⟩

theorem said : Rows.LexWordsSaid :=
  OpenClaim.holds_of_wide 3 Tryd.f3 rfl rfl rfl rfl rfl rfl rfl ⟨rfl, rfl, rfl, rfl, rfl⟩ rfl rfl rfl rfl rfl (by kernel_rfl) Tryd.func3 (by kernel_rfl)
    (of_decide_eq_true (by kernel_rfl)) (by unfold Func.isWrapper; first | (rw [if_pos (by decide +kernel)]; kernel_rfl) | (rw [if_neg (by decide +kernel)]; exact ⟨rfl, rfl⟩))
    (fun os started H enc _ => lifted os started H enc)
end LexWords

theorem lexWords_card_holds : Rows.LexWordsCardSaid :=
  Claim7.holds_tied_plain_at .later [] _ true _ true
    LexWords.said (fun _ h => by cases h) (by kernel_rfl) (fun _ h => by cases h) lexWords_row_tie rfl ⟨rfl, rfl⟩ (by kernel_rfl) rfl
    (fun f fn hf hfn => by
      obtain rfl : f = 3 := Option.some.inj ((show Tryd.prog.funcNamed "paling/palinglaw02.LexWords" = some 3 by kernel_rfl).symm.trans hf) |>.symm
      obtain rfl : fn = Tryd.f3 := (Option.some.inj (Tryd.func3.symm.trans hfn)).symm
      exact ⟨by kernel_rfl, fun j t ht => by
        rw [Tryd.params3] at ht
        have hm : t ∈ [9] := by simpa using Array.mem_of_getElem? ht
        have hall : ([9].all fun u => !Tryd.prog.wantsStandIn u) = true := by kernel_rfl
        exact (show Tryd.prog.wantsStandIn t = false by simpa using List.all_eq_true.1 hall t hm)⟩)
    (by kernel_rfl)
#print axioms lexWords_card_holds
end Go.Proofs.YtkmmohhafmnheaaDoor
