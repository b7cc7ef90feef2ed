/- LexBack comes out true for every text, with spaces and with newlines: no condition but what the card itself says of the listed variables. -/
import Derived.Test.YtkmmohhafmnheaaDoorBackS
import Derived.Test.YtkmmohhafmnheaaDoorLaidB
import Derived.Test.YtkmmohhafmnheaaDoorTie
import Derived.Test.YtkmmohhafmnheaaDoorCards
import Derived.SevenTiedAt
import Derived.Carry
namespace Go.Proofs.YtkmmohhafmnheaaDoor
namespace LexBack
open Go Go.ChangeShapes Go.WideShapes Go.ChangeAt Go.WideMaps Go.WideElems Go.RowKit Go.Sort
open Go.ChangeMaps (open_string shut_string)


theorem walk (s : ByteArray) (ws : s.size ≤ maxLen) (b : Bool) (W : World) (L : Laid W) : Calls Tryd.prog 5 #[.string s, .bool b] W fun e w' => e = .returned (.bool true) ∧ Below W.heap.size W w' := by
  unfold maxLen at ws
  by_cases h : 2000 < s.size
  · exact walk_long s b h (by omega) W (Lib.hid L)
  · have e : s.data.toList.length = s.size := rfl
    obtain ⟨X, r, hS⟩ := Sc.total numO _ s.data.toList 0 (Nat.le_refl _)
    match r, hS with
    | none, hS =>
      have hlen := hS.few rfl
      have hP := hS.placed rfl s.data.toList rfl (Nat.zero_le _)
      have hx : ∀ x : UInt8, Sep x → (joinT x X).length ≤ 5000 ∧ ∃ V, Sc numO (joinT x X) 0 V none ∧ V.length = X.length ∧ V.map Wd.key = X.map Wd.key := fun x hx => by
        have h1 := hP.long (x := x) X 0
        obtain ⟨V, h2, h3⟩ := hS.again rfl hx 0
        exact ⟨by omega, V, h2, by simpa using congrArg List.length h3, h3⟩
      cases b
      · obtain ⟨h1, V, h2⟩ := hx 32 (Or.inl rfl)
        exact walk_ok2 s X (by omega) (hS.some_words rfl) (by omega) (Lib.hid hS) (Lib.hid hP) (Lib.hid h1) V (Lib.hid h2) W (Lib.hid L)
      · obtain ⟨h1, V, h2⟩ := hx 10 (Or.inr rfl)
        exact walk_ok s X (by omega) (hS.some_words rfl) (by omega) (Lib.hid hS) (Lib.hid hP) (Lib.hid h1) V (Lib.hid h2) W (Lib.hid L)
    | some (e0, a0), hS =>
      have h1 := hS.bad_lt e0 a0 rfl
      exact walk_err s b X e0 a0 (by omega) (by rcases hS.bad_code e0 a0 rfl with rfl | rfl <;> rfl) (by omega) (Lib.hid hS) W (Lib.hid L)

set_option maxRecDepth 100000 in
theorem lifted (os : Os) (started : os.Started) (H : Type) (enc : TypeId × Value → H) :
    ReturnsInHanded {} Tryd.checked os 5 .any (fun w args => (Rows.lexBackSpec.pre enc Tryd.prog Tryd.f5 [] false w args ∧ laidMetH Tryd.prog laidL w) ∧ sizedMet enc Tryd.prog Tryd.f5 (OpenSpec.ofChange Rows.lexBackSpec) false w args)
      (Rows.lexBackSpec.post enc Tryd.prog Tryd.f5 false true false false) := by
  refine returnsInHanded_of_change_and (C := Tryd.checked) (X := fun w _ => laidMetH Tryd.prog laidL w) (fun _ _ _ hh h => h.of_heap hh) own started (by kernel_rfl) Tryd.func5
    (ChangeSpec.witness_shaped (enc := enc) (C := Tryd.checked) (os := os) (X := fun w _ => laidMetH Tryd.prog laidL w) false (World.doorLaid Tryd.prog 400 os) #[.string ByteArray.empty, .bool false] 8 rfl (World.shaped_of_RefB (by kernel_rfl) (by kernel_rfl)) (by kernel_rfl) (by kernel_rfl) (by kernel_rfl) (door_met os _)) ?_
  intro W base args ds gs before hval0 hW _ _ hL _
  have hval : ∀ (j : Nat) t v, Tryd.f5.params[j]? = some t → args[j]? = some v → Value.okWide Tryd.prog W .any base t v := hval0
  have hW' := hW
  obtain ⟨p, q, hA0, hV, rfl, hfz, hnd⟩ := hW
  have hA : DataW.TrodAll enc Tryd.prog W 0 (fun _ => true) true Tryd.f5.params.toList args.toList ds p := hA0
  rw [Tryd.params5] at hA hval
  obtain ⟨v0, v1, d0, d1, p0, p1, rfl, rfl, rfl, h0, h1⟩ := trodAll_two hA
  obtain ⟨rfl, rfl⟩ := trodVars_none hV
  obtain ⟨s, rfl, rfl, rfl, wx0⟩ := open_string Tryd.underlying9 (hval 0 9 _ rfl rfl) h0
  obtain ⟨b, rfl, rfl, rfl⟩ := open_bool Tryd.underlying4 (hval 1 4 _ rfl rfl) h1
  have hLaid := of_laid hL
  clear hA0 hval0
  simp only [List.append_nil] at hW'
  refine (walk s wx0 b W hLaid).mono fun e W' ⟨he, hb⟩ => ?_
  subst he
  exact ⟨_, rfl, _, _, _, [], [], [], hW', trodAll_mk1 (shut_bool Tryd.underlying4 _), trodAll_mk2 (shut_string Tryd.underlying9 wx0) (shut_bool Tryd.underlying4 b), rfl, hb.frame _, fun h => by cases h⟩

theorem said : Rows.LexBackSaid :=
  OpenClaim.holds_of_wide 5 Tryd.f5 rfl rfl rfl rfl rfl rfl rfl ⟨rfl, rfl, rfl, rfl, rfl⟩ rfl rfl rfl rfl rfl (by kernel_rfl) Tryd.func5 (by kernel_rfl)
    (of_decide_eq_true (by kernel_rfl)) (by unfold Func.isWrapper; first | (rw [if_pos (by decide +kernel)]; kernel_rfl) | (rw [if_neg (by decide +kernel)]; exact ⟨rfl, rfl⟩))
    (fun os started H enc _ => lifted os started H enc)
end LexBack

theorem lexBack_card_holds : Rows.LexBackCardSaid :=
  Claim7.holds_tied_plain_at .later [] _ true _ true
    LexBack.said (fun _ h => by cases h) (by kernel_rfl) (fun _ h => by cases h) lexBack_row_tie rfl ⟨rfl, rfl⟩ (by kernel_rfl) rfl
    (fun f fn hf hfn => by
      obtain rfl : f = 5 := Option.some.inj ((show Tryd.prog.funcNamed "paling/palinglaw02.LexBack" = some 5 by kernel_rfl).symm.trans hf) |>.symm
      obtain rfl : fn = Tryd.f5 := (Option.some.inj (Tryd.func5.symm.trans hfn)).symm
      exact ⟨by kernel_rfl, fun j t ht => by
        rw [Tryd.params5] at ht
        have hm : t ∈ [9, 4] := by simpa using Array.mem_of_getElem? ht
        have hall : ([9, 4].all fun u => !Tryd.prog.wantsStandIn u) = true := by kernel_rfl
        exact (show Tryd.prog.wantsStandIn t = false by simpa using List.all_eq_true.1 hall t hm)⟩)
    (by kernel_rfl)
#print axioms lexBack_card_holds
end Go.Proofs.YtkmmohhafmnheaaDoor
