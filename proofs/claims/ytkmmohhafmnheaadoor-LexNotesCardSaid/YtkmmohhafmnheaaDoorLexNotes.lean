/- LexNotes comes out true for any three texts: no condition but what the card itself says of the listed variables. -/
import Derived.Test.YtkmmohhafmnheaaDoorNotesB
import Derived.Test.YtkmmohhafmnheaaDoorLaidB
import Derived.Test.YtkmmohhafmnheaaDoorTie
import Derived.Test.YtkmmohhafmnheaaDoorCards
import Derived.SevenTiedAt
import Derived.Carry
namespace Go.Proofs.YtkmmohhafmnheaaDoor
namespace LexNotes
open Go Go.ChangeShapes Go.WideShapes Go.ChangeAt Go.WideMaps Go.WideElems Go.RowKit Go.Sort
open Go.ChangeMaps (open_string shut_string)


theorem walk (s : ByteArray) (ws : s.size ≤ maxLen) (nt : ByteArray) (wn : nt.size ≤ maxLen) (t : ByteArray) (wt : t.size ≤ maxLen) (W : World) (L : Laid W) : Calls Tryd.prog 6 #[.string s, .string nt, .string t] W fun e w' => e = .returned (.bool true) ∧ Below W.heap.size W w' := by
  unfold maxLen at ws wn wt
  by_cases h : 1000 < s.size ∨ 1000 < t.size ∨ 100 < nt.size
  · exact walk_far s nt t h (by omega) (by omega) (by omega) W (Lib.hid L)
  · have e : s.data.toList.length = s.size := rfl
    have et : t.data.toList.length = t.size := rfl
    cases hN : hasB nt.data.toList 10
    · have hn : ∀ c ∈ nt.data.toList, c ≠ 10 := by
        rintro c hc rfl
        unfold hasB at hN
        rw [Bool.eq_false_iff] at hN
        exact hN (List.contains_iff_mem.2 hc)
      have hsz := noted_size s nt t
      have HN := Lib.hid hN
      clear hN
      obtain ⟨X, r, hS⟩ := Sc.total numO _ s.data.toList 0 (Nat.le_refl _)
      match r, hS with
      | some (e0, a0), hS =>
        have hc : Sc numO (noted s nt t).data.toList 0 X (some (e0, a0)) := by
          rw [noted_list]
          exact hS.joinBad (by simp) _
        have hcw := noted_words s nt t X _ hc (by omega)
        exact walk_err1 s nt t X e0 a0 (by omega) (by omega) (by omega) HN (by rcases hS.bad_code e0 a0 rfl with rfl | rfl <;> rfl) (Lib.hid hS) (Lib.hid (fun w hw => hcw.2 w hw e0 a0 rfl)) W (Lib.hid L)
      | none, hS =>
        obtain ⟨X0, hX0, hj⟩ := hS.join rfl
        rw [Nat.zero_add, e] at hX0 hj
        obtain ⟨Y, r2, hT⟩ := Sc.total numO _ t.data.toList 0 (Nat.le_refl _)
        have hT2 := hT.shift (s.size + (nt.data.toList.length + 4))
        rw [Nat.zero_add] at hT2
        have hc := hj _ _ _ (hT2.note hn)
        rw [← noted_list] at hc
        have hcw := noted_words s nt t _ _ hc (by omega)
        match r2, hT, hcw with
        | some (e0, a0), hT, hcw =>
          exact walk_err2 s nt t X Y e0 a0 _ (by omega) (by omega) (by omega) HN (by rcases hT.bad_code e0 a0 rfl with rfl | rfl <;> rfl) (Lib.hid hS) (Lib.hid hT) (Lib.hid (fun w hw => hcw.2 w hw e0 _ rfl)) W (Lib.hid L)
        | none, hT, hcw =>
          have hXl := hS.few rfl
          have hYl := hT.few rfl
          have hXp := hS.some_words rfl
          have hl : X.length = X0.length + 1 := by rw [hX0]; simp
          have hvl : (X0 ++ Y.map fun w => (⟨w.k, w.t, w.n, w.a + (s.size + (nt.data.toList.length + 4))⟩ : Wd)).length = X0.length + Y.length := by simp
          refine walk_ok s nt t X Y _ (X0.length + Y.length) (by omega) (by omega) (by omega) HN hXp (by omega) (hT.some_words rfl) (by omega) (by omega) (by omega) (Lib.hid hvl) (Lib.hid (by rw [hX0]; exact three_of)) (Lib.hid hS) (Lib.hid hT) (Lib.hid ?_) W (Lib.hid L)
          intro w hw
          refine (hcw.1 w hw rfl).mono fun e' w' hx => ?_
          obtain ⟨⟨g, cap, e1, e2⟩, hb⟩ := hx
          rw [hvl] at e1 e2
          exact ⟨⟨g, cap, e1, by rw [hvl]; exact e2⟩, hb⟩
    · exact walk_nl s nt t (by omega) (by omega) (by omega) (Lib.hid hN) W (Lib.hid L)

set_option maxRecDepth 100000 in
theorem lifted (os : Os) (started : os.Started) (H : Type) (enc : TypeId × Value → H) :
    ReturnsInHanded {} Tryd.checked os 6 .any (fun w args => (Rows.lexNotesSpec.pre enc Tryd.prog Tryd.f6 [] false w args ∧ laidMetH Tryd.prog laidL w) ∧ sizedMet enc Tryd.prog Tryd.f6 (OpenSpec.ofChange Rows.lexNotesSpec) false w args)
      (Rows.lexNotesSpec.post enc Tryd.prog Tryd.f6 false true false false) := by
  refine returnsInHanded_of_change_and (C := Tryd.checked) (X := fun w _ => laidMetH Tryd.prog laidL w) (fun _ _ _ hh h => h.of_heap hh) own started (by kernel_rfl) Tryd.func6
    (ChangeSpec.witness_shaped (enc := enc) (C := Tryd.checked) (os := os) (X := fun w _ => laidMetH Tryd.prog laidL w) false (World.doorLaid Tryd.prog 400 os) #[.string ByteArray.empty, .string ByteArray.empty, .string ByteArray.empty] 8 rfl (World.shaped_of_RefB (by kernel_rfl) (by kernel_rfl)) (by kernel_rfl) (by kernel_rfl) (by kernel_rfl) (door_met os _)) ?_
  intro W base args ds gs before hval0 hW _ _ hL _
  have hval : ∀ (j : Nat) t v, Tryd.f6.params[j]? = some t → args[j]? = some v → Value.okWide Tryd.prog W .any base t v := hval0
  have hW' := hW
  obtain ⟨p, q, hA0, hV, rfl, hfz, hnd⟩ := hW
  have hA : DataW.TrodAll enc Tryd.prog W 0 (fun _ => true) true Tryd.f6.params.toList args.toList ds p := hA0
  rw [Tryd.params6] at hA hval
  obtain ⟨v0, v1, v2, d0, d1, d2, p0, p1, p2, rfl, rfl, rfl, h0, h1, h2⟩ := trodAll_three hA
  obtain ⟨rfl, rfl⟩ := trodVars_none hV
  obtain ⟨s, rfl, rfl, rfl, wx0⟩ := open_string Tryd.underlying9 (hval 0 9 _ rfl rfl) h0
  obtain ⟨nt, rfl, rfl, rfl, wx1⟩ := open_string Tryd.underlying9 (hval 1 9 _ rfl rfl) h1
  obtain ⟨t, rfl, rfl, rfl, wx2⟩ := open_string Tryd.underlying9 (hval 2 9 _ rfl rfl) h2
  have hLaid := of_laid hL
  clear hA0 hval0
  simp only [List.append_nil] at hW'
  refine (walk s wx0 nt wx1 t wx2 W hLaid).mono fun e W' ⟨he, hb⟩ => ?_
  subst he
  exact ⟨_, rfl, _, _, _, [], [], [], hW', trodAll_mk1 (shut_bool Tryd.underlying4 _), trodAll_mk3 (shut_string Tryd.underlying9 wx0) (shut_string Tryd.underlying9 wx1) (shut_string Tryd.underlying9 wx2), rfl, hb.frame _, fun h => by cases h⟩

theorem said : Rows.LexNotesSaid :=
  OpenClaim.holds_of_wide 6 Tryd.f6 rfl rfl rfl rfl rfl rfl rfl ⟨rfl, rfl, rfl, rfl, rfl⟩ rfl rfl rfl rfl rfl (by kernel_rfl) Tryd.func6 (by kernel_rfl)
    (of_decide_eq_true (by kernel_rfl)) (by unfold Func.isWrapper; first | (rw [if_pos (by decide +kernel)]; kernel_rfl) | (rw [if_neg (by decide +kernel)]; exact ⟨rfl, rfl⟩))
    (fun os started H enc _ => lifted os started H enc)
end LexNotes

theorem lexNotes_card_holds : Rows.LexNotesCardSaid :=
  Claim7.holds_tied_plain_at .later [] _ true _ true
    LexNotes.said (fun _ h => by cases h) (by kernel_rfl) (fun _ h => by cases h) lexNotes_row_tie rfl ⟨rfl, rfl⟩ (by kernel_rfl) rfl
    (fun f fn hf hfn => by
      obtain rfl : f = 6 := Option.some.inj ((show Tryd.prog.funcNamed "paling/palinglaw02.LexNotes" = some 6 by kernel_rfl).symm.trans hf) |>.symm
      obtain rfl : fn = Tryd.f6 := (Option.some.inj (Tryd.func6.symm.trans hfn)).symm
      exact ⟨by kernel_rfl, fun j t ht => by
        rw [Tryd.params6] at ht
        have hm : t ∈ [9, 9, 9] := by simpa using Array.mem_of_getElem? ht
        have hall : ([9, 9, 9].all fun u => !Tryd.prog.wantsStandIn u) = true := by kernel_rfl
        exact (show Tryd.prog.wantsStandIn t = false by simpa using List.all_eq_true.1 hall t hm)⟩)
    (by kernel_rfl)
#print axioms lexNotes_card_holds
end Go.Proofs.YtkmmohhafmnheaaDoor
