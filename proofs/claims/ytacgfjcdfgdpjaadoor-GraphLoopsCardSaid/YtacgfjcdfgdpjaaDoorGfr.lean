/- The places that one can be come to from, and whether one number stands under another: two closures' answers, graph's tree.has. -/
import Derived.Test.YtacgfjcdfgdpjaaDoorGso
namespace Go.Proofs.YtacgfjcdfgdpjaaDoor
set_option linter.unusedSimpArgs false
set_option linter.unusedVariables false
open Go Go.RowKit Gm

/-- A row that is read is handed back. -/
def FromP (W : World) (ba o : Nat) (l : List Nat) (e : Ending) (w' : World) : Prop := ∃ p cap, e = .returned (.slice p l.length cap) ∧ (∀ q, q < l.length → p = some ⟨ba, o, none⟩) ∧ ∃ q, w' = W.drewN q
/-- The row, in whatever world has it. -/
theorem Sr.row {W : World} {ba bf b9 b3 : Nat} {y : Wm} (h : Sr W ba bf b9 b3 y) {t q i : Nat} (ht : t < y.n) (hi : (y.src t)[q]? = some i) : ba < W.heap.size ∧ W.cell? ⟨ba, y.F t + q, none⟩ = some (.int .i64 (i : Int)) := by
  obtain ⟨A, h1, h2⟩ := h.al
  have hq := (List.getElem?_eq_some_iff.1 hi).1
  have hb : y.F t + q < y.F y.n := by
    have h3 := sm_next (f := fun t => (y.src t).length) ht
    unfold Wm.F
    omega
  refine ⟨h1.lt, ?_⟩
  rw [h1.cell hb]
  simp only [iv, h2 t ht q i hi]
theorem Sr.facts {W : World} {ba bf b9 b3 : Nat} {y : Wm} (h : Sr W ba bf b9 b3 y) : b9 < W.heap.size ∧ W.cell? ⟨b9, 0, none⟩ = some (.slice (some ⟨ba, 0, none⟩) (y.F y.n) (y.F y.n)) ∧ b3 < W.heap.size ∧ W.cell? ⟨b3, 0, none⟩ = some (.slice (some ⟨bf, 0, none⟩) (y.n + 1) (y.n + 1)) :=
  ⟨(Array.getElem?_eq_some_iff.1 h.x9).1, by rw [cell_of_row _ _ _ _ _ _ h.x9]; rfl, (Array.getElem?_eq_some_iff.1 h.x3).1, by rw [cell_of_row _ _ _ _ _ _ h.x3]; rfl⟩
theorem Sr.stay {W X : World} {ba bf b9 b3 : Nat} {y : Wm} (h : Sr W ba bf b9 b3 y) (hb : Below W.heap.size W X) : Sr X ba bf b9 b3 y := by
  obtain ⟨A, h1, h2⟩ := h.al
  exact ⟨(hb.block _ h.facts.1).trans h.x9, (hb.block _ h.facts.2.2.1).trans h.x3, h.fi.stay hb, A, h1.stay hb, h2⟩
theorem F_mono {y : Wm} {a b : Nat} (h : a ≤ b) : y.F a ≤ y.F b := sm_mono h
set_option maxRecDepth 100000 in
set_option maxHeartbeats 1000000 in
theorem from_any {W : World} {ba bf b9 b3 : Nat} {y : Wm} (hS : Hid (Sr W ba bf b9 b3 y)) (hn : y.n ≤ 1000000) {t : Nat} (ht : t < y.n) : Calls Tryd.prog 39 #[.int .i64 t, .pointer (some ⟨b9, 0, none⟩), .pointer (some ⟨b3, 0, none⟩)] W (FromP W ba (y.F t) (y.src t)) := by
  obtain ⟨l9, c9, l3, c3⟩ := hS.out.facts
  have i0 := hS.out.fi.cell (i := t) (by omega)
  have i1 := hS.out.fi.cell (i := t + 1) (by omega)
  simp only [iv] at i0 i1
  have h01 : y.F t ≤ y.F (t + 1) := F_mono (by omega)
  have h1n : y.F (t + 1) ≤ y.F y.n := F_mono (by omega)
  have hlen : y.F (t + 1) = y.F t + (y.src t).length := F_succ t
  obtain ⟨F0, hF0⟩ : ∃ x, y.F t = x := ⟨_, rfl⟩
  obtain ⟨F1, hF1⟩ : ∃ x, y.F (t + 1) = x := ⟨_, rfl⟩
  obtain ⟨tot, htot⟩ : ∃ x, y.F y.n = x := ⟨_, rfl⟩
  rw [hF0] at i0 h01 hlen ⊢
  rw [hF1] at i1 h01 h1n hlen
  rw [htot] at c9 h1n
  have HL := Lib.hid hlen
  clear hF0 hF1 htot hlen
  by_cases he : tot = F0
  · go_enter Tryd.func39, Tryd.ntmps39
    go_wp2
    go_quiet (fail)
    go_wp2
    go_ret
    have : F1 - F0 = (y.src t).length := by have := HL.out; omega
    rw [this]
    exact ⟨_, _, rfl, fun q hq => by have := HL.out; omega, _, rfl⟩
  · go_enter Tryd.func39, Tryd.ntmps39
    go_wp2
    go_quiet (fail)
    go_wp2
    go_ret
    have : F1 - F0 = (y.src t).length := by have := HL.out; omega
    rw [this]
    exact ⟨_, _, rfl, fun q hq => rfl, _, rfl⟩
end Go.Proofs.YtacgfjcdfgdpjaaDoor
