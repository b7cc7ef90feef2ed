/- Those that lead to one, as a row of one's own: graph's Preds' function. -/
import Derived.Test.YtacgfjcdfgdpjaaDoorGre
namespace Go.Proofs.YtacgfjcdfgdpjaaDoor
set_option linter.unusedSimpArgs false
set_option linter.unusedVariables false
open Go Go.RowKit Gm

theorem Sr.rv {X : World} {ba bf b9 b3 t : Nat} {y : Wm} {p : Option Addr} (h : Sr X ba bf b9 b3 y) (ht : t < y.n) (hp : ∀ q, q < (y.src t).length → p = some ⟨ba, y.F t, none⟩) : RV X p (y.src t).length (lv (y.src t)) := fun i hi => by
  obtain ⟨h1, h2⟩ := h.row ht (List.getElem?_eq_getElem hi)
  exact ⟨ba, _, hp i hi, h1, by rw [h2]; simp [lv, hi]⟩
set_option maxRecDepth 100000 in
set_option maxHeartbeats 2000000 in
theorem preds1_any {W : World} {f ba bf b9 b3 : Nat} {y : Wm} (hS : Hid (Sr W ba bf b9 b3 y)) (hf : W.cell? ⟨f, 0, none⟩ = some (.func (.func 39) #[] #[.pointer (some ⟨b9, 0, none⟩), .pointer (some ⟨b3, 0, none⟩)])) (hn : y.n ≤ 1000000) {t : Nat} (ht : t < y.n) :
    Calls Tryd.prog 25 #[.int .i64 t, .pointer (some ⟨f, 0, none⟩)] W fun e w' => ∃ v, e = .returned v ∧ GV 3 W.heap.size w' v (y.src t).length (lv (y.src t)) ∧ Below W.heap.size W w' := by
  have hl := src_most y t
  obtain ⟨L, hL⟩ : ∃ L, y.src t = L := ⟨_, rfl⟩
  have HL := Lib.hid hL
  have HF := Lib.hid (from_any hS hn ht)
  have HRV : Hid (∀ p : Option Addr, (∀ q, q < L.length → p = some ⟨ba, y.F t, none⟩) → ∀ q : Nat, RV (W.drewN q) p L.length (lv L)) := Lib.hid fun p hp q => by
    subst hL
    exact (hS.out.like (Y := W.drewN q) rfl).rv ht hp
  rw [hL] at HF hl ⊢
  clear hL
  have h1 : ∀ i, i < L.length → (lv L i).oneCell' = true := fun i _ => rfl
  have H1 := Lib.hid h1
  clear h1
  go_enter Tryd.func25, Tryd.ntmps25
  go_wp2_with (first
    | (go_at_call 39; ((with_reducible refine HF.out.mono ?_); rintro e4 w4 ⟨pL, cL, rfl, hp, q, rfl⟩; have HP := Lib.hid (HRV.out pL hp q); clear hp))
    | (go_at_call 26; ((with_reducible refine (own_any HP H1.out (by omega)).mono ?_); rintro e5 w5 ⟨v5, rfl, hg5, hb5⟩; have H5 := Lib.hid (And.intro hg5 hb5); clear hg5 hb5)))
  go_ret
  exact ⟨_, rfl, H5.out.1, Below.trans (B := W.heap.size) (b := W.drewN q) (below_like (Below.refl _ W) rfl rfl rfl rfl) H5.out.2⟩
end Go.Proofs.YtacgfjcdfgdpjaaDoor
