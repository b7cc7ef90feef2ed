/- A forest that grows together: what is found in it. Plain mathematics. -/
import Derived.Test.YtacgfjcdfgdpjaaDoorGa
namespace Go.Proofs.YtacgfjcdfgdpjaaDoor.Gm

/-- All from t on are hung up, and shortened somehow. -/
structure Clb (m : Nat) (par s : Nat → Nat) (t : Nat) (up : Nat → Option Nat) (bs : Nat → Nat) : Prop where
  free : ∀ u, u < t → u < m → up u = none ∧ bs u = u
  hung : ∀ u, t ≤ u → u < m → ∃ p, up u = some p ∧ p < u ∧ Anc par p u ∧ Anc par (bs u) u ∧ p < bs u ∧ ∀ z, Anc par z u → p < z → t ≤ z ∧ s (bs u) ≤ s z
section
variable {m t : Nat} {par s : Nat → Nat} {up : Nat → Option Nat} {bs : Nat → Nat}
theorem Clb.bare (C : Clb m par s t up bs) {u : Nat} (hu : u < m) (h : up u = none) : u < t := by
  refine Classical.byContradiction fun hn => ?_
  obtain ⟨p, h1, _⟩ := C.hung u (by omega) hu
  rw [h] at h1
  cases h1
theorem Clb.tied (C : Clb m par s t up bs) {u p : Nat} (hu : u < m) (h : up u = some p) : t ≤ u ∧ p < u ∧ p < m := by
  have : t ≤ u := Classical.byContradiction fun hn => by
    have := (C.free u (by omega) hu).1
    rw [h] at this
    cases this
  obtain ⟨q, h1, h2, _⟩ := C.hung u this hu
  rw [h] at h1
  cases h1
  exact ⟨this, h2, by omega⟩
theorem Clb.best (C : Clb m par s t up bs) (hp : ∀ v, 0 < v → v < m → par v < v) {u : Nat} (hu : u < m) : bs u < m ∧ (t ≤ u → t ≤ bs u) := by
  by_cases h : t ≤ u
  · obtain ⟨p, h1, h2, h3, h4, h5, h6⟩ := C.hung u h hu
    have := Anc.le hp h4 hu
    exact ⟨by omega, fun _ => (h6 _ h4 h5).1⟩
  · have := (C.free u (by omega) hu).2
    exact ⟨by omega, fun h1 => absurd h1 h⟩
/-- A shorter way. -/
theorem Clb.short (C : Clb m par s t up bs) (hp : ∀ v, 0 < v → v < m → par v < v) {u p q b : Nat} {up' : Nat → Option Nat} {bs' : Nat → Nat} (hu : u < m) (h1 : up u = some p) (h2 : up p = some q) (hb : b = if s (bs p) < s (bs u) then bs p else bs u)
    (hu' : ∀ x, up' x = if x = u then some q else up x) (hb' : ∀ x, bs' x = if x = u then b else bs x) : Clb m par s t up' bs' := by
  obtain ⟨a1, a2, a3⟩ := C.tied hu h1
  obtain ⟨b1, b2, b3⟩ := C.tied a3 h2
  refine ⟨fun x hx hm => ?_, fun x hx hm => ?_⟩
  · rw [hu', hb', if_neg (by omega), if_neg (by omega)]
    exact C.free x hx hm
  · by_cases e : x = u
    · subst e
      rw [hu', hb', if_pos rfl, if_pos rfl]
      obtain ⟨p', c1, c2, c3, c4, c5, c6⟩ := C.hung x hx hm
      rw [h1] at c1
      cases c1
      obtain ⟨q', d1, d2, d3, d4, d5, d6⟩ := C.hung p b1 a3
      rw [h2] at d1
      cases d1
      have hz : ∀ z, Anc par z x → q < z → t ≤ z ∧ (s (bs x) ≤ s z ∨ s (bs p) ≤ s z) := fun z hz hq => by
        by_cases h : p < z
        · exact ⟨(c6 z hz h).1, .inl (c6 z hz h).2⟩
        · have := Anc.of_le hp hz c3 hm (by omega)
          exact ⟨(d6 z this hq).1, .inr (d6 z this hq).2⟩
      refine ⟨q, rfl, by omega, d3.trans c3, ?_, ?_, fun z h3 h4 => ⟨(hz z h3 h4).1, ?_⟩⟩
      · rw [hb]
        split
        · exact d4.trans c3
        · exact c4
      · rw [hb]
        split
        · exact d5
        · omega
      · have := (hz z h3 h4).2
        rw [hb]
        split <;> omega
    · rw [hu', hb', if_neg e, if_neg e]
      exact C.hung x hx hm
/-- One more is hung up. -/
theorem Clb.link (C : Clb m par s (t + 1) up bs) (hp : ∀ v, 0 < v → v < m → par v < v) (h0 : 0 < t) (ht : t < m) {up' : Nat → Option Nat} (hu' : ∀ x, up' x = if x = t then .some (par t) else up x) : Clb m par s t up' bs := by
  refine ⟨fun x hx hm => ?_, fun x hx hm => ?_⟩
  · rw [hu', if_neg (by omega)]
    exact C.free x (by omega) hm
  · by_cases e : x = t
    · subst e
      have h1 := hp x h0 ht
      have hb := (C.free x (by omega) ht).2
      rw [hu', if_pos rfl, hb]
      refine ⟨_, rfl, h1, .step h0 (.refl _), .refl _, h1, fun z hz hlt => ?_⟩
      rcases hz.cases' with rfl | ⟨_, hz⟩
      · exact ⟨Nat.le_refl _, Nat.le_refl _⟩
      · have := Anc.le hp hz (by omega)
        omega
    · rw [hu', if_neg e]
      obtain ⟨p, c1, c2, c3, c4, c5, c6⟩ := C.hung x (by omega) hm
      exact ⟨p, c1, c2, c3, c4, c5, fun z a b => ⟨by have := (c6 z a b).1; omega, (c6 z a b).2⟩⟩
theorem Clb.sem (C : Clb m par s t up bs) {s' : Nat → Nat} (h : ∀ z, t ≤ z → s' z = s z) : Clb m par s' t up bs := by
  refine ⟨C.free, fun x hx hm => ?_⟩
  obtain ⟨p, c1, c2, c3, c4, c5, c6⟩ := C.hung x hx hm
  refine ⟨p, c1, c2, c3, c4, c5, fun z a b => ⟨(c6 z a b).1, ?_⟩⟩
  rw [h _ (c6 z a b).1, h _ (c6 _ c4 c5).1]
  exact (c6 z a b).2
/-- What is found. -/
def FindR (m : Nat) (par s : Nat → Nat) (t v y : Nat) : Prop := y < m ∧ (v < t → y = v) ∧ (t ≤ v → Anc par y v ∧ t ≤ y ∧ ∀ z, Anc par z v → t ≤ z → s y ≤ s z)
theorem Clb.found (C : Clb m par s t up bs) (hp : ∀ v, 0 < v → v < m → par v < v) {v q : Nat} (hv : v < m) (h1 : up v = .some q) (hq : q < t) : FindR m par s t v (bs v) := by
  obtain ⟨a1, a2, a3⟩ := C.tied hv h1
  obtain ⟨p, c1, c2, c3, c4, c5, c6⟩ := C.hung v a1 hv
  rw [h1] at c1
  cases c1
  have := Anc.le hp c4 hv
  exact ⟨by omega, fun h => by omega, fun _ => ⟨c4, (c6 _ c4 c5).1, fun z a b => (c6 z a (by omega)).2⟩⟩
end
end Go.Proofs.YtacgfjcdfgdpjaaDoor.Gm
