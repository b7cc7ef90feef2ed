/- SeqAlone comes out true for every codes, words and turns: a thread that uses no memory and no lock does the same whatever others do. No condition. -/
import Derived.Test.YtnmalhjhfddjpaaRows
import Derived.Test.YtnmalhjhfddjpaaAln12
import Derived.WalkKit
import Derived.ProofKit
import Derived.OpenShut
import Derived.Carry
namespace Go.Proofs.Ytnmalhjhfddjpaa
set_option linter.unusedSimpArgs false
set_option linter.unusedVariables false
open Go.ChangeShapes Go.WideShapes Go.ChangeAt Go.RowKit
theorem small_ok {W : World} {p q : Option Addr} {n cap m mcap : Nat} {cs : List (List Ic)} (hl : cs.length = n) (hn : n ≤ maxLen) (hm : m ≤ maxLen) (hc : CodesAt W p cs) {b : Bool} (e : smallB cs m = b) : ∀ X, Below W.heap.size W X → Calls Try.prog 7 #[.slice p n cap, .slice q m mcap] X fun e w' => e = .returned (.bool b) ∧ X = w' := fun X hX => e ▸ small_any (Lib.hid hl) (by simpa [maxLen] using hn) (by simpa [maxLen] using hm) (Lib.hid (hc.stay hX))
theorem new_ok {W : World} {p q : Option Addr} {n cap m mcap : Nat} {cs : List (List Ic)} {mem : List Int} (hl : cs.length = n) (hc : CodesAt W p cs) (hm : mem.length = m) (hI : IntsAt W q mem) (e : smallB cs m = true) : (∀ X, Below W.heap.size W X → Calls Try.prog 8 #[.slice p n cap, .slice q m mcap] X (NwP X cs mem)) ∧ cs.length ≤ 6 ∧ (∀ c ∈ cs, c.length ≤ 100) ∧ m ≤ 100 := by
  unfold smallB at e
  simp only [Bool.and_eq_true, decide_eq_true_eq, List.all_eq_true] at e
  obtain ⟨e1, e2, e3⟩ := e
  exact ⟨fun X hX => new_any hl (by omega) (Lib.hid (hc.stay hX)) (Lib.hid fun c hcm => by have := e1 c hcm; omega) hm (by omega) (Lib.hid (hI.stay hX)), e2, e1, e3⟩
theorem alone_walk {W : World} {p q pt : Option Addr} {n cap m mcap nt ct : Nat} {cs : List (List Ic)} {l mem : List Int} (h1 : cs.length = n) (h2 : n ≤ maxLen) (h3 : CodesAt W p cs) (h4 : mem.length = m) (h5 : m ≤ maxLen) (h6 : IntsAt W q mem) (h7 : l.length = nt) (h8 : nt ≤ maxLen) (h9 : IntsAt W pt l) :
    Calls Try.prog 4 #[.slice p n cap, .slice q m mcap, .slice pt nt ct] W fun e w' => e = .returned (.bool true) ∧ Below W.heap.size W w' := by
  cases hb : smallB cs m with
  | false => exact alone_sb (Lib.hid (small_ok h1 h2 h5 h3 hb))
  | true =>
    have hs := Lib.hid (small_ok (q := q) (cap := cap) (mcap := mcap) h1 h2 h5 h3 hb)
    obtain ⟨hn, hc6, hc100, _⟩ := new_ok (cap := cap) (mcap := mcap) h1 h3 h4 h6 hb
    by_cases c0 : n = 0
    · exact alone_0 hs c0
    by_cases c1 : 40 < nt
    · exact alone_1 hs (by omega) c1
    obtain ⟨k0, hk0⟩ : ∃ c, cs[0]? = some c := ⟨_, List.getElem?_eq_getElem (by omega)⟩
    obtain ⟨g, o, hp, hg, cp, cc, hcell, hcd⟩ := h3 0 k0 hk0
    rw [Nat.add_zero] at hcell
    exact alone_in hs (by omega) (by omega) (Lib.hid hn) (Lib.hid (by omega)) (Lib.hid hk0) (Lib.hid rfl) (hc100 _ (List.mem_of_getElem? hk0)) hp hg (Lib.hid hcell) (Lib.hid hcd) (Lib.hid h7) (Lib.hid h9)

theorem out_laid : laidOutB Try.prog = true := by kernel_rfl
theorem own_knob : ownKnob Try.prog.godebug = none := by kernel_rfl
set_option maxRecDepth 100000 in
theorem seqAlone_lifted (os : Os) (started : os.Started) (H : Type) (enc : TypeId × Value → H) :
    ReturnsInHanded {} Try.checked os 4 .any (Rows.seqAloneSpec.pre6 enc Try.prog Try.f4 Rows.seqAloneRow.domain false) (Rows.seqAloneSpec.post enc Try.prog Try.f4 false true false false) := by
  refine returnsInHanded_of_change (C := Try.checked) own_knob started (by kernel_rfl) Try.func4
    (ChangeSpec.witness6 (enc := enc) (C := Try.checked) false ⟨#[], #[.slice none 0 0, .slice none 0 0, .slice none 0 0], []⟩ 8 (by kernel_rfl) (by kernel_rfl) (by kernel_rfl) (by kernel_rfl)) ?_
  intro W base args ds gs before hval0 hW hcnd _
  have hval : ∀ (j : Nat) t v, Try.f4.params[j]? = some t → args[j]? = some v → Value.okWide Try.prog W .any base t v := hval0
  have hW' := hW
  obtain ⟨p, q, hA0, hV, rfl, hfz, hnd⟩ := hW
  have hA : DataW.TrodAll enc Try.prog W 0 (fun _ => true) true Try.f4.params.toList args.toList ds p := hA0
  rw [Try.params4] at hA hval
  obtain ⟨v0, vs0, d0, ds0, p0, q0, hargs, rfl, rfl, h0, r0⟩ := trodAll_cons hA
  obtain ⟨v1, vs1, d1, ds1, p1, q1, rfl, rfl, rfl, h1, r1⟩ := trodAll_cons r0
  obtain ⟨v2, vs2, d2, ds2, p2, q2, rfl, rfl, rfl, h2, r2⟩ := trodAll_cons r1
  obtain ⟨rfl, rfl, rfl⟩ := trodAll_nil r2
  obtain rfl : args = #[v0, v1, v2] := by cases args; simp_all
  obtain ⟨rfl, rfl⟩ := trodVars_none hV
  obtain ⟨a0, n0, c0, rfl⟩ := okWide_slice Try.underlying22 (hval 0 22 v0 rfl rfl)
  obtain ⟨l0, hl0, hm0, hc0⟩ := open_codes h0
  obtain ⟨a1, n1, c1, rfl⟩ := okWide_slice Try.underlying23 (hval 1 23 v1 rfl rfl)
  obtain ⟨l1, hl1, hm1, hc1⟩ := open_i64s h1
  obtain ⟨a2, n2, c2, rfl⟩ := okWide_slice Try.underlying24 (hval 2 24 v2 rfl rfl)
  obtain ⟨l2, hl2, hm2, hc2⟩ := open_ints_ h2
  have hlt0 : ∀ x ∈ p0, x.block < W.heap.size := fun x hx => by simpa using hW'.lt x (by simp [hx])
  have hlt1 : ∀ x ∈ p1, x.block < W.heap.size := fun x hx => by simpa using hW'.lt x (by simp [hx])
  have hlt2 : ∀ x ∈ p2, x.block < W.heap.size := fun x hx => by simpa using hW'.lt x (by simp [hx])
  clear hA0 hval0
  simp only [List.append_nil] at hW'
  refine (alone_walk hl0 hm0 hc0 hl1 hm1 hc1 hl2 hm2 hc2).mono fun e W' ⟨he, hb⟩ => ?_
  subst he
  exact ⟨_, rfl, _, _, _, [], _, [], hW', trodAll_mk1 (shut_bool Try.underlying4 _), (trodAll_cons_mk (Below.trod out_laid (by kernel_rfl) (of_decide_eq_true (by kernel_rfl)) h0 hb hlt0) (trodAll_cons_mk (Below.trod out_laid (by kernel_rfl) (of_decide_eq_true (by kernel_rfl)) h1 hb hlt1) (trodAll_cons_mk (Below.trod out_laid (by kernel_rfl) (of_decide_eq_true (by kernel_rfl)) h2 hb hlt2) trodAll_mk0))), rfl, hb.frame _, fun h => by cases h⟩

/-- The statement: whatever it is handed. -/
theorem seqAlone_card_holds : Rows.SeqAloneSaid :=
  OpenClaim.holds_of_wide 4 Try.f4 rfl rfl rfl rfl rfl rfl rfl ⟨rfl, rfl, rfl, rfl, rfl⟩ rfl rfl rfl rfl rfl (by kernel_rfl) Try.func4 (by kernel_rfl)
    (of_decide_eq_true (by kernel_rfl)) (by unfold Func.isWrapper; first | (rw [if_pos (by decide +kernel)]; kernel_rfl) | (rw [if_neg (by decide +kernel)]; exact ⟨rfl, rfl⟩))
    (fun os started H enc _ => seqAlone_lifted os started H enc)
#print axioms seqAlone_card_holds
end Go.Proofs.Ytnmalhjhfddjpaa
