/- A run at its beginning. -/
import Derived.Test.YtnmalhjhfddjpaaAsk
import Derived.Deep.AppendLies
namespace Go.Proofs.Ytnmalhjhfddjpaa
set_option linter.unusedSimpArgs false
set_option linter.unusedVariables false
open Go Go.RowKit Go.ChangeMaps Go.MapKept Go.WideElems Go.Maps

/-- Codes in memory, one behind the other. -/
def CodesAt (w : World) (p : Option Addr) (cs : List (List Ic)) : Prop := ∀ (i : Nat) c, cs[i]? = some c → ∃ g o, p = some ⟨g, o, none⟩ ∧ g < w.heap.size ∧ ∃ cp cap, w.cell? ⟨g, o + i, none⟩ = some (.slice cp c.length cap) ∧ CodeAt w cp c
theorem CodesAt.stay {W W' : World} {p : Option Addr} {cs : List (List Ic)} (h : CodesAt W p cs) (hb : Below W.heap.size W W') : CodesAt W' p cs := fun i c hc => by
  obtain ⟨g, o, h1, h2, cp, cap, h3, h4⟩ := h i c hc
  exact ⟨g, o, h1, Nat.lt_of_lt_of_le h2 hb.size, cp, cap, (hb.cell (p := ⟨g, o + i, none⟩) h2).trans h3, h4.stay hb⟩
/-- Numbers in memory. -/
def IntsAt (w : World) (p : Option Addr) (l : List Int) : Prop := ∀ (i : Nat) u, l[i]? = some u → ∃ g o, p = some ⟨g, o, none⟩ ∧ g < w.heap.size ∧ w.cell? ⟨g, o + i, none⟩ = some (.int .i64 u)
theorem IntsAt.stay {W W' : World} {p : Option Addr} {l : List Int} (h : IntsAt W p l) (hb : Below W.heap.size W W') : IntsAt W' p l := fun i c hc => by
  obtain ⟨g, o, h1, h2, h3⟩ := h i c hc
  exact ⟨g, o, h1, Nat.lt_of_lt_of_le h2 hb.size, (hb.cell (p := ⟨g, o + i, none⟩) h2).trans h3⟩
/-- How so many threads stand at first. -/
def G0 (k : Nat) (mem : List Int) : G := ⟨List.replicate k ⟨0, false, fun _ => 0⟩, mem, fun _ => -1⟩
section
variable {W X Y : World} {L : Lay} {N lo A : Nat} {mem : List Int}
/-- One thread more. -/
theorem RA.add (h : RA W L (G0 L.ts.length mem) 0 lo A W.heap.size) (hb : Below W.heap.size W X) {t : TL} (ht : TP X L.rb L.ts.length t 0 false (fun _ => 0) 0) (hi : TI t W.heap.size X.heap.size) (hs : X.heap.size ≤ Y.heap.size)
    (hY : ∀ q, q < X.heap.size → q ≠ L.rb → L.tv.ownBlock ≠ some q → Y.heap[q]? = X.heap[q]?) {v' : Value} (hr : Rb Y L.rb v' (.slice L.mp L.mn L.mc) (.map (some L.om))) {g : Nat} {cap : Nat} (hv : v' = .slice (some ⟨g, 0, none⟩) (L.ts.length + 1) cap) (hw : Y.ownsRow A 55 1 v' (L.ts.length + 1) (ptrs (L.ts ++ [t]))) (hg : L.tv.ownBlock = some g ∨ X.heap.size ≤ g) (hgl : g < Y.heap.size) :
    RA Y { L with tv := v', ts := L.ts ++ [t] } (G0 (L.ts.length + 1) mem) 0 lo A Y.heap.size := by
  have hX := h.below hb
  have is := h.is
  have h1 := is.rb
  have h2 := is.om
  have ah := is.ah
  have hsz := hb.size
  have tb := hi.tb
  have trm := hi.rm
  have tdm := hi.dm
  have rA : ∀ b, L.tv.ownBlock = some b → A ≤ b ∧ b < W.heap.size := fun b e => by
    refine ⟨?_, (h.rh b e).1⟩
    rcases h.row.2 with ⟨e0, _⟩ | ⟨q, c, cur, e0, hq, _⟩
    · rw [e0] at e
      cases e
    · rw [e0] at e
      have e2 : q = b := by simpa [Value.ownBlock] using e
      omega
  have no : ∀ b, b < A → L.tv.ownBlock ≠ some b := fun b hlt e => by
    have := rA b e
    omega
  have old : ∀ (k : Nat) (u : TL), L.ts[k]? = some u → ∀ q, (q = u.tb ∨ q = u.rm ∨ q = u.dm ∨ ∃ a, u.cp = some a ∧ q = a.block) → q < X.heap.size → Y.heap[q]? = X.heap[q]? := fun k u hu q hq hl => by
    have hU := is.th k u hu
    have u1 := hU.tb
    have u2 := hU.rm
    have u3 := hU.dm
    refine hY q hl ?_ fun e => ?_
    · rcases hq with e | e | e | ⟨a, ea, e⟩
      · omega
      · omega
      · omega
      · have := hU.cp a ea
        omega
    · obtain ⟨r1, r2, r3, r4⟩ := (h.rh q e).2 k u hu
      rcases hq with e | e | e | ⟨a, ea, e⟩
      · exact r1 e
      · exact r2 e
      · exact r3 e
      · exact r4 a ea e.symm
  have getA : ∀ (k : Nat) (u : TL), (L.ts ++ [t])[k]? = some u → L.ts[k]? = some u ∨ (k = L.ts.length ∧ u = t) := fun k u hu => by
    by_cases hk : k < L.ts.length
    · rw [List.getElem?_append_left hk] at hu
      exact .inl hu
    · rw [List.getElem?_append_right (by omega)] at hu
      have hk2 : k - L.ts.length = 0 := by
        have := (List.getElem?_eq_some_iff.1 hu).1
        simp at this
        omega
      rw [hk2] at hu
      simp only [List.getElem?_cons_zero, Option.some.injEq] at hu
      exact .inr ⟨by omega, hu.symm⟩
  have gA : A ≤ g := by
    rcases hg with e | e
    · exact (rA g e).1
    · omega
  refine ⟨hr, hX.own.same (hY _ hX.own.lt is.ro.symm (no _ h2.2)), hX.mem.same hs fun a e hl => hY _ hl (is.mr a e).1 (no _ (is.mp a e).2), h.len, h.sm, by simp [G0], fun k u x hu hx => ?_, by rw [List.length_append]; exact hw, fun b e => ?_, ⟨h1, h2, is.mp, is.ro, is.mr, by omega, fun k u hu => ?_, fun j k u z hu hz hne => ?_⟩, Nat.le_refl _⟩
  · have hx2 : x = ⟨0, false, fun _ => 0⟩ := by
      simp only [G0] at hx
      rw [List.getElem?_replicate] at hx
      split at hx
      · exact (Option.some.inj hx).symm
      · cases hx
    subst hx2
    rcases getA k u hu with hu | ⟨rfl, rfl⟩
    · have hp := hX.th k u ⟨0, false, fun _ => 0⟩ hu (by
        simp only [G0]
        rw [List.getElem?_replicate, if_pos (List.getElem?_eq_some_iff.1 hu).1])
      have hU := is.th k u hu
      exact ⟨(old k u hu _ (.inl rfl) hp.thr.facts.1).trans hp.thr, hp.doe.same (old k u hu _ (.inr (.inr (.inl rfl))) hp.doe.lt), hp.reg.same (old k u hu _ (.inr (.inl rfl)) hp.reg.lt), hp.cod.same hs fun a e hl => old k u hu _ (.inr (.inr (.inr ⟨a, e, rfl⟩))) hl, hp.sm⟩
    · have nw : ∀ q, W.heap.size ≤ q → q < X.heap.size → Y.heap[q]? = X.heap[q]? := fun q hq hl => hY q hl (by omega) fun e => by
        have := rA q e
        omega
      exact ht.same hi hs fun q hq h3 h4 => nw q h3 h4
  · have e2 : g = b := by
      rw [hv] at e
      simpa [Value.ownBlock] using e
    subst e2
    refine ⟨hgl, fun k u hu => ?_⟩
    rcases getA k u hu with hu | ⟨_, rfl⟩
    · rcases hg with e | e
      · exact (h.rh _ e).2 k u hu
      · have hU := is.th k u hu
        have u1 := hU.tb
        have u2 := hU.rm
        have u3 := hU.dm
        exact ⟨by omega, by omega, by omega, fun a ea => by have := hU.cp a ea; omega⟩
    · rcases hg with e | e
      · have := rA _ e
        exact ⟨by omega, by omega, by omega, fun a ea => by have := hi.cp a ea; omega⟩
      · exact ⟨by omega, by omega, by omega, fun a ea => by have := hi.cp a ea; omega⟩
  · rcases getA k u hu with hu | ⟨_, rfl⟩
    · have hU := is.th k u hu
      exact ⟨⟨hU.tb.1, by have := hU.tb; omega⟩, ⟨hU.rm.1, by have := hU.rm; omega⟩, ⟨hU.dm.1, by have := hU.dm; omega⟩, fun a e => ⟨(hU.cp a e).1, by have := hU.cp a e; omega⟩, hU.tr, hU.td, hU.rd, hU.ct⟩
    · exact ⟨⟨by omega, by omega⟩, ⟨by omega, by omega⟩, ⟨by omega, by omega⟩, fun a e => by have := hi.cp a e; omega, hi.tr, hi.td, hi.rd, hi.ct⟩
  · rcases getA j u hu with hu | ⟨rfl, rfl⟩
    · have hU := is.th j u hu
      have u1 := hU.tb
      have u2 := hU.rm
      have u3 := hU.dm
      rcases getA k z hz with hz | ⟨rfl, rfl⟩
      · exact is.sep j k u z hu hz hne
      · exact ⟨by omega, by omega, by omega, by omega, by omega, by omega, fun a ea => by have := hU.cp a ea; omega⟩
    · rcases getA k z hz with hz | ⟨rfl, rfl⟩
      · have hZ := is.th k z hz
        have z1 := hZ.tb
        have z2 := hZ.rm
        exact ⟨by omega, by omega, by omega, by omega, by omega, by omega, fun a ea => by have := hi.cp a ea; omega⟩
      · exact absurd rfl hne
end
end Go.Proofs.Ytnmalhjhfddjpaa
