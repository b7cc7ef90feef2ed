/- graph's answers by places: what the laws go on with. -/
import Derived.Test.YtacgfjcdfgdpjaaDoorGlw
namespace Go.Proofs.YtacgfjcdfgdpjaaDoor
set_option linter.unusedSimpArgs false
set_option linter.unusedVariables false
open Go Go.RowKit Gm

theorem up_len (n : Nat) : ∀ (l : List Nat) (b : Nat), l.Pairwise (fun x y => x < y) → (∀ x, x ∈ l → b ≤ x ∧ x < n) → l.length ≤ n - b := by
  intro l
  induction l with
  | nil => exact fun b _ _ => Nat.zero_le _
  | cons a l ih =>
    intro b hp hm
    have h1 := List.pairwise_cons.1 hp
    have h2 := hm a (by simp)
    have := ih (a + 1) h1.2 fun x hx => ⟨h1.1 x hx, (hm x (by simp [hx])).2⟩
    rw [List.length_cons]
    omega
/-- Two rising rows of the same numbers are one. -/
theorem up_same {l k : List Nat} (hl : l.Pairwise (fun x y => x < y)) (hk : k.Pairwise (fun x y => x < y)) (h : ∀ t, t ∈ l ↔ t ∈ k) : l = k := by
  induction l generalizing k with
  | nil =>
    cases k with
    | nil => rfl
    | cons b k => exact absurd ((h b).2 (by simp)) (by simp)
  | cons a l ih =>
    cases k with
    | nil => exact absurd ((h a).1 (by simp)) (by simp)
    | cons b k =>
      obtain ⟨a1, a2⟩ := List.pairwise_cons.1 hl
      obtain ⟨b1, b2⟩ := List.pairwise_cons.1 hk
      have hab : a = b := by
        rcases List.mem_cons.1 ((h a).1 (by simp)) with e | e
        · exact e
        · rcases List.mem_cons.1 ((h b).2 (by simp)) with e2 | e2
          · exact e2.symm
          · have := b1 a e
            have := a1 b e2
            omega
      subst hab
      rw [ih a2 b2 fun t => ?_]
      constructor
      · intro ht
        rcases List.mem_cons.1 ((h t).1 (by simp [ht])) with e | e
        · have := a1 t ht; omega
        · exact e
      · intro ht
        rcases List.mem_cons.1 ((h t).2 (by simp [ht])) with e | e
        · have := b1 t ht; omega
        · exact e
/-- A row of truths of something. -/
def BR (W : World) (v : Value) (n : Nat) (T : Nat → Prop) : Prop := ∃ q cap g, v = .slice q n cap ∧ RV W q n (bv g) ∧ ∀ j, j < n → (g j = true ↔ T j)
theorem BR.stay {W X : World} {v : Value} {n : Nat} {T : Nat → Prop} (h : BR W v n T) (hb : Below W.heap.size W X) : BR X v n T := by
  obtain ⟨q, cap, g, e, h, t⟩ := h
  exact ⟨q, cap, g, e, h.stay hb, t⟩
/-- A rising row of the numbers of which something holds. -/
def NR (W : World) (v : Value) (T : Nat → Prop) : Prop := ∃ l, RowIn W v l ∧ l.length ≤ 1000000 ∧ l.Pairwise (fun x y => x < y) ∧ ∀ t, t ∈ l ↔ T t
theorem NR.stay {W X : World} {v : Value} {T : Nat → Prop} (h : NR W v T) (hb : Below W.heap.size W X) : NR X v T := by
  obtain ⟨l, h1, h2⟩ := h
  exact ⟨l, h1.stay hb, h2⟩
/-- Rows of such. -/
def Rows2 (W : World) (v : Value) (m : Nat) (R : World → Nat → Value → Prop) : Prop := ∃ p cap S, v = .slice p m cap ∧ RV W p m S ∧ ∀ i, i < m → R W i (S i)
theorem Rows2.stay {W X : World} {v : Value} {m : Nat} {R : World → Nat → Value → Prop} (h : Rows2 W v m R) (hb : Below W.heap.size W X) (hR : ∀ i u, R W i u → R X i u) : Rows2 X v m R := by
  obtain ⟨p, cap, S, e, h1, h2⟩ := h
  exact ⟨p, cap, S, e, h1.stay hb, fun i hi => hR i _ (h2 i hi)⟩
theorem out_of {c : List Ic} {i j : Nat} (h : Ed c i j) : i < c.length ∧ j < c.length := outs_lt h
theorem Rch.lt {c : List Ic} {i : Nat} (h : Rch c i) : i < c.length := by
  obtain ⟨hc, k⟩ := h
  have hpos : 0 < c.length := by
    cases c with
    | nil => exact absurd rfl hc
    | cons _ _ => simp
  exact k.closed (S := fun z => z < c.length) hpos fun x y _ _ e _ => (out_of e).2
theorem Lpp.lt {c : List Ic} {h i : Nat} (k : Lpp c h i) : i < c.length := by
  obtain ⟨j, e, _, _, k⟩ := k
  rcases k with rfl | k
  · exact (out_of e).2
  · exact k.1.lt
section
variable {W : World} {p : Option Addr} {cap : Nat} {c : List Ic}
theorem reach_c (hn : c.length ≤ 1000000) (hc : Hid (CodeAt W p c)) (T : Hid (Kinds W)) : Calls Tryd.prog 9 #[.slice p c.length cap] W fun e w' => ∃ v, e = .returned v ∧ BR w' v c.length (Rch c) ∧ Below W.heap.size W w' := by
  refine (reach_any hn hc T).mono ?_
  rintro e w' ⟨b, r, y, rfl, hf, hN, hr, _, hb⟩
  exact ⟨_, rfl, ⟨_, _, r, rfl, hf.rv, fun j _ => reach_pl hN hr j⟩, hb⟩
theorem preds_c (hn : c.length ≤ 1000000) (hc : Hid (CodeAt W p c)) (T : Hid (Kinds W)) : Calls Tryd.prog 12 #[.slice p c.length cap] W fun e w' => ∃ v, e = .returned v ∧ Rows2 w' v c.length (fun X i u => NR X u fun t => Rch c t ∧ Ed c t i) ∧ Below W.heap.size W w' := by
  refine (preds_any hn hc T).mono ?_
  rintro e w' ⟨y, hyn, hN, hS, b, S, rfl, hf, hR, _, hb⟩
  refine ⟨_, rfl, ⟨_, _, S, rfl, hf.rv, fun i hi => ?_⟩, hb⟩
  obtain ⟨B, _, hg⟩ := hR i hi
  have hne : c ≠ [] := fun e => by rw [e] at hi; exact absurd hi (Nat.not_lt_zero _)
  obtain ⟨q, cq, e, hrv, _⟩ := GV.rv hg
  have := src_most y i
  exact ⟨y.src i, ⟨q, cq, e, hrv⟩, by omega, src_up y i, fun t => src_pl (hN.2 hne)⟩
theorem domin_c (hn : c.length ≤ 1000000) (hc : Hid (CodeAt W p c)) (T : Hid (Kinds W)) : Calls Tryd.prog 14 #[.slice p c.length cap] W fun e w' => ∃ v, e = .returned v ∧ Rows2 w' v c.length (fun X i u => BR X u c.length fun j => Dmp c j i) ∧ Below W.heap.size W w' := by
  refine (domin_any hn hc T).mono ?_
  rintro e w' ⟨y, hyn, hN, b, S, rfl, hf, hR, _, hb⟩
  refine ⟨_, rfl, ⟨_, _, S, rfl, hf.rv, fun i hi => ?_⟩, hb⟩
  obtain ⟨B, _, q, g, e, _, hfq, hg⟩ := hR i hi
  exact ⟨_, _, g, e, hfq.rv, fun j _ => (hg j).trans (dom_pl hN)⟩
theorem loops_c (hn : c.length ≤ 1000000) (hc : Hid (CodeAt W p c)) (T : Hid (Kinds W)) : Calls Tryd.prog 16 #[.slice p c.length cap] W fun e w' => ∃ v, e = .returned v ∧ Rows2 w' v (phs c).length (fun X i u => NR X u (Lpp c ((phs c).getD i 0))) ∧ Below W.heap.size W w' := by
  refine (loops_any hn hc T).mono ?_
  rintro e w' ⟨y, ar, hd, hN, hh, hL, b, S, rfl, hf, hR, _, hb⟩
  have hl := hds_length hN hh
  rw [hl] at hf hR
  refine ⟨_, rfl, ⟨_, _, S, by rw [hl], hf.rv, fun i hi => ?_⟩, hb⟩
  obtain ⟨B, _, q, cq, zs, e, hrv, _, hup, hm⟩ := hR i hi
  have hm' : ∀ t, t ∈ zs ↔ Lpp c ((phs c).getD i 0) t := fun t => (hm t).trans (loop_pl hN hh hL hi)
  have := up_len c.length zs 0 hup fun x hx => ⟨Nat.zero_le _, ((hm' x).1 hx).lt⟩
  exact ⟨zs, ⟨q, cq, e, hrv⟩, by omega, hup, hm'⟩
theorem depth_c (hn : c.length ≤ 1000000) (hc : Hid (CodeAt W p c)) (T : Hid (Kinds W)) : Calls Tryd.prog 19 #[.slice p c.length cap] W fun e w' => ∃ v, e = .returned v ∧ RowIn w' v ((List.range c.length).map (dpt c)) ∧ Below W.heap.size W w' := by
  refine (depth_any hn hc T).mono ?_
  rintro e w' ⟨y, ar, hd, b, dp, rfl, hf, hN, hh, hL, hD, _, hb⟩
  refine ⟨_, rfl, ⟨some ⟨b, 0, none⟩, c.length, by simp, ?_⟩, hb⟩
  rw [List.length_map, List.length_range]
  exact hf.rv.to fun i hi => by simp [iv, lv, hi, depth_pl hN hh hL hD i]
end
end Go.Proofs.YtacgfjcdfgdpjaaDoor
