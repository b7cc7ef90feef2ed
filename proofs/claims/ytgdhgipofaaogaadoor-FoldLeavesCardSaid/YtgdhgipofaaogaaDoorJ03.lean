/- Lemmas for the laws of live (Fsm Fst Fqu Fqv Fqn Lkm Fkn Fml Fon Fld Fla Fbe Fpk): each says its own conditions. -/
import Derived.Test.YtgdhgipofaaogaaDoorJ01
import Derived.Test.YtgdhgipofaaogaaDoorJ02
import Derived.Maps.OwnSet
import Derived.Maps.RangeWalk
import Derived.Laws.Bits64b
import Derived.Laws.BitsAllLaws
set_option linter.unusedSimpArgs false
set_option linter.unusedVariables false
namespace Go.Proofs.YtgdhgipofaaogaaDoor
open Gm

def dfn (c : List Ic) (q : Nat) : Int := match c[q]? with | some x => defM x | none => -1
def nds (c : List Ic) (q : Nat) : List Int := match c[q]? with | some x => if x.k = 1 ∨ x.k = 2 ∨ x.k = 3 then usesM x else [] | none => []
/-- A code whose registers are ones. -/
def Okc (c : List Ic) : Prop := ∀ (i : Nat) (x : Ic), c[i]? = some x → (0 ≤ x.k ∧ x.k ≤ 13) ∧ (x.k ≤ 4 → 0 ≤ x.d) ∧ ((x.k = 1 ∨ x.k = 2 ∨ x.k = 3) → 0 ≤ x.a) ∧ ((x.k = 2 ∨ x.k = 3) → 0 ≤ x.b)
/-- How places are come to. -/
structure Stp (c : List Ic) (fr : Nat → List Nat) (tg : Nat → Bool) : Prop where
  mem : ∀ p q, q ∈ fr p ↔ Rc c q ∧ p ∈ outs c q
  tg : ∀ p, Rc c p → (tg p = true ↔ p = 0 ∨ 1 < (fr p).length)
def pd (fr : Nat → List Nat) (p : Nat) : Nat := (fr p).headD 0
/-- From where on nothing else becomes known of a register, going back. -/
inductive Src (c : List Ic) (fr : Nat → List Nat) (tg : Nat → Bool) (r : Int) : Nat → Nat → Prop
  | stop {q : Nat} (h : dfn c q = r ∨ tg q = true) : Src c fr tg r q q
  | back {q s : Nat} (h1 : dfn c q ≠ r) (h2 : tg q = false) (h : Src c fr tg r (pd fr q) s) : Src c fr tg r q s
section
variable {c : List Ic} {fr : Nat → List Nat} {tg : Nat → Bool} {r : Int} {p q s : Nat}
theorem Src.one {s' : Nat} (h : Src c fr tg r q s) (k : Src c fr tg r q s') : s = s' := by
  induction h with
  | stop h =>
    cases k with
    | stop _ => rfl
    | back h1 h2 _ =>
      rcases h with h | h
      · exact absurd h h1
      · rw [h2] at h; cases h
  | back h1 h2 _ ih =>
    cases k with
    | stop h =>
      rcases h with h | h
      · exact absurd h h1
      · rw [h2] at h; cases h
    | back _ _ h => exact ih h
theorem Src.at (h : Src c fr tg r q s) : dfn c s = r ∨ tg s = true := by
  induction h with
  | stop h => exact h
  | back _ _ _ ih => exact ih
theorem Stp.zero (h : Stp c fr tg) (h0 : 0 < c.length) : tg 0 = true := (h.tg 0 (.zero h0)).2 (.inl rfl)
/-- What one way alone leads to has that one's place behind it. -/
theorem Stp.pd (h : Stp c fr tg) (hp : Rc c p) (ht : tg p = false) (hq : Rc c q) (hm : p ∈ outs c q) : pd fr p = q ∧ fr p = [q] := by
  have h1 : q ∈ fr p := (h.mem p q).2 ⟨hq, hm⟩
  have h2 : ¬ 1 < (fr p).length := fun k => by have := (h.tg p hp).2 (.inr k); rw [ht] at this; cases this
  match hf : fr p with
  | [] => rw [hf] at h1; cases h1
  | [a] =>
    rw [hf] at h1
    obtain rfl : q = a := by simpa using h1
    exact ⟨by unfold Go.Proofs.YtgdhgipofaaogaaDoor.pd; rw [hf]; rfl, rfl⟩
  | a :: b :: l => rw [hf] at h2; simp at h2
theorem Stp.src (h : Stp c fr tg) (r : Int) (hq : Rc c q) : ∃ s, Src c fr tg r q s ∧ Rc c s := by
  induction hq with
  | zero h0 => exact ⟨0, .stop (.inr (h.zero h0)), .zero h0⟩
  | @on i j hi hj ih =>
    by_cases h1 : dfn c j = r
    · exact ⟨j, .stop (.inl h1), .on hi hj⟩
    · cases ht : tg j with
      | true => exact ⟨j, .stop (.inr ht), .on hi hj⟩
      | false =>
        obtain ⟨s, hs, hr⟩ := ih
        exact ⟨s, .back h1 ht (by rw [(h.pd (.on hi hj) ht hi hj).1]; exact hs), hr⟩
theorem Src.rc (h : Stp c fr tg) (hq : Rc c q) (k : Src c fr tg r q s) : Rc c s := by
  obtain ⟨s', h1, h2⟩ := h.src r hq
  rw [k.one h1]; exact h2
end
/-- What a register is known to have, of what was told; what was asked for, but not told yet. -/
abbrev Km : Type := Nat → Int → Option (Int × Bool)
def Xv (M : Km) (p : Nat) (r : Int) : Option Int := match M p r with | some (n, true) => some n | _ => none
def unt (M : Km) (p : Nat) (r : Int) : Prop := ∃ n, M p r = some (n, false)
def bX (c : List Ic) (M : Km) (s : Nat) (r : Int) : Option Int := if r = dfn c s then (match c[s]? with | some x => vl (Xv M s) x | none => none) else Xv M s r
/-- What it hangs on isn't told. -/
def Blk (c : List Ic) (M : Km) (s : Nat) (r : Int) : Prop := (dfn c s = r ∧ ∃ nd, nd ∈ nds c s ∧ unt M s nd) ∨ (dfn c s ≠ r ∧ unt M s r)
/-- What was asked for, where it is told, and what is told of it; Wy: what waits to be told. -/
structure TI (c : List Ic) (fr : Nat → List Nat) (tg : Nat → Bool) (Q : Nat → Int → Prop) (Ld : Nat → Int → List Nat) (M : Km) (Wy : Nat → Int → Nat → Prop) : Prop where
  q0 : ∀ r, ¬ Q 0 r
  qr : ∀ p r, Q p r → 0 ≤ r
  nq : ∀ p r, ¬ Q p r → M p r = none
  ld : ∀ p r q s, Q p r → q ∈ fr p → Src c fr tg r q s → p ∈ Ld s r
  lq : ∀ s r p, p ∈ Ld s r → Q p r ∧ ∃ q, q ∈ fr p ∧ Src c fr tg r q s
  cl : ∀ s r, Ld s r ≠ [] → s = 0 ∨ (dfn c s = r ∧ ∀ nd, nd ∈ nds c s → Q s nd) ∨ (dfn c s ≠ r ∧ Q s r)
  up : ∀ G, Cons c G → ∀ p r, Rc c p → Q p r → ¬ unt M p r → ∀ m, G p r = some m → M p r = some (m, true)
  pn : ∀ s r p, p ∈ Ld s r → Wy s r p ∨ Blk c M s r ∨ (¬ unt M p r ∧ ∀ n, Xv M p r = some n → bX c M s r = some n)
theorem vl_at {f g : Int → Option Int} {x : Ic} (h1 : (x.k = 1 ∨ x.k = 2 ∨ x.k = 3) → kle (fun r => if r = x.a then f r else none) g) (h2 : (x.k = 2 ∨ x.k = 3) → kle (fun r => if r = x.b then f r else none) g) (h3 : x.k = 3 → kle (fun r => if r = x.d then f r else none) g) {n : Int} (hv : vl f x = some n) : vl g x = some n := by
  have key : vl (fun r => if (x.k = 1 ∨ x.k = 2 ∨ x.k = 3) ∧ r = x.a ∨ (x.k = 2 ∨ x.k = 3) ∧ r = x.b ∨ x.k = 3 ∧ r = x.d then f r else none) x = some n := by
    rw [← hv]
    unfold vl
    by_cases k0 : x.k = 0
    · simp [k0]
    by_cases k1 : x.k = 1
    · simp [k1]
    by_cases k2 : x.k = 2
    · simp [k2]
    by_cases k3 : x.k = 3
    · simp [k3]
    · simp [k0, k1, k2, k3]
  refine vl_mono (fun r m hm => ?_) key
  split at hm
  · rename_i hc
    rcases hc with ⟨a, e⟩ | ⟨a, e⟩ | ⟨a, e⟩
    · exact h1 a r m (by simp only; rw [if_pos e]; exact hm)
    · exact h2 a r m (by simp only; rw [if_pos e]; exact hm)
    · exact h3 a r m (by simp only; rw [if_pos e]; exact hm)
  · cases hm
theorem nds_in {c : List Ic} {i : Nat} {x : Ic} (hx : c[i]? = some x) (hk : Okc c) : ((x.k = 1 ∨ x.k = 2 ∨ x.k = 3) → x.a ∈ nds c i) ∧ ((x.k = 2 ∨ x.k = 3) → x.b ∈ nds c i) ∧ (x.k = 3 → x.d ∈ nds c i) := by
  obtain ⟨hk0, hd, ha, hb⟩ := hk i x hx
  have hn : (x.k = 1 ∨ x.k = 2 ∨ x.k = 3) → nds c i = usesM x := fun h => by
    unfold nds
    rw [hx]
    simp only
    rw [if_pos h]
  have hu : usesM x = pos (srt [if kps x.k.toNat then x.d else -1, aTo x x.k.toNat 4, bTo x x.k.toNat 4]) := if_pos hk0
  have hp : ∀ z : Int, 0 ≤ z → z ∈ [if kps x.k.toNat then x.d else -1, aTo x x.k.toNat 4, bTo x x.k.toNat 4] → z ∈ usesM x := fun z hz hm => by
    rw [hu]
    unfold pos
    rw [List.mem_filter]
    exact ⟨mem_srt.2 hm, by simpa using hz⟩
  have ta : (x.k = 1 ∨ x.k = 2 ∨ x.k = 3) → aTo x x.k.toNat 4 = x.a := fun h => by
    unfold aTo
    rcases h with h | h | h <;> (rw [h]; exact if_pos (by decide))
  have tb : (x.k = 2 ∨ x.k = 3) → bTo x x.k.toNat 4 = x.b := fun h => by
    unfold bTo
    rcases h with h | h <;> (rw [h]; exact if_pos (by decide))
  refine ⟨fun h => ?_, fun h => ?_, fun h => ?_⟩
  · rw [hn h]; exact hp _ (ha h) (by rw [ta h]; simp)
  · rw [hn (by omega)]; exact hp _ (hb h) (by rw [tb h]; simp)
  · rw [hn (by omega)]
    refine hp _ (hd (by omega)) ?_
    have : kps x.k.toNat = true := by rw [h]; decide
    rw [if_pos this]
    simp
section
variable {c : List Ic} {fr : Nat → List Nat} {tg : Nat → Bool} {Q : Nat → Int → Prop} {Ld : Nat → Int → List Nat} {M : Km} {Wy : Nat → Int → Nat → Prop} {p q s : Nat} {r n : Int} {x : Ic}
/-- .. by what it hangs on alone. -/
theorem vl_nds {f g : Int → Option Int} (hx : c[s]? = some x) (hk : Okc c) (h : ∀ nd, nd ∈ nds c s → ∀ m, f nd = some m → g nd = some m) (hv : vl f x = some n) : vl g x = some n := by
  obtain ⟨h1, h2, h3⟩ := nds_in hx hk
  have key : ∀ z, z ∈ nds c s → kle (fun r => if r = z then f r else none) g := fun z hz r m hm => by
    simp only at hm
    split at hm
    · rename_i e
      subst e
      exact h r hz m hm
    · cases hm
  exact vl_at (fun k => key _ (h1 k)) (fun k => key _ (h2 k)) (fun k => key _ (h3 k)) hv
theorem dfn_eq (hx : c[s]? = some x) : dfn c s = defM x := by unfold dfn; rw [hx]
theorem dfn_d (hx : c[s]? = some x) (hk : Okc c) (hr : 0 ≤ r) : dfn c s = r ↔ (x.k ≤ 4 ∧ x.d = r) := by
  obtain ⟨⟨k0, k1⟩, hd, -, -⟩ := hk s x hx
  rw [dfn_eq hx]
  have e : defM x = if x.k ≤ 4 then x.d else -1 := by
    have e1 : defM x = (if hasB x.k.toNat 1 then x.d else -1) := if_pos ⟨k0, k1⟩
    rw [e1]
    have : hasB x.k.toNat 1 = decide (x.k ≤ 4) := by
      obtain ⟨k, hk⟩ : ∃ k : Nat, x.k = k := ⟨x.k.toNat, by omega⟩
      rw [hk]
      have hk13 : k ≤ 13 := by omega
      have : ∀ k : Nat, k ≤ 13 → hasB ((k : Int)).toNat 1 = decide ((k : Int) ≤ 4) := by decide
      exact this k hk13
    rw [this]
    by_cases h4 : x.k ≤ 4
    · rw [if_pos h4]; simp [h4]
    · rw [if_neg h4]; simp [h4]
  rw [e]
  by_cases h4 : x.k ≤ 4
  · rw [if_pos h4]; simp [h4]
  · rw [if_neg h4]
    constructor
    · intro h; omega
    · rintro ⟨h, -⟩; exact absurd h h4
theorem bhF_no {f : Int → Option Int} (hx : c[s]? = some x) (hk : Okc c) (hr : 0 ≤ r) (h : dfn c s ≠ r) : bhF f x r = f r := by
  unfold bhF
  by_cases h4 : 4 < x.k
  · rw [if_pos h4]
  · rw [if_neg h4, if_neg fun e => h ((dfn_d hx hk hr).2 ⟨by omega, e.symm⟩)]
theorem bhF_yes {f : Int → Option Int} (hx : c[s]? = some x) (hk : Okc c) (hr : 0 ≤ r) (h : dfn c s = r) : bhF f x r = vl f x := by
  obtain ⟨h4, e⟩ := (dfn_d hx hk hr).1 h
  unfold bhF
  rw [if_neg (by omega), if_pos e.symm]
theorem bX_yes (hx : c[s]? = some x) (h : dfn c s = r) : bX c M s r = vl (Xv M s) x := by
  unfold bX
  rw [if_pos h.symm, hx]
theorem bX_no (h : dfn c s ≠ r) : bX c M s r = Xv M s r := by
  unfold bX
  rw [if_neg fun e => h e.symm]
theorem Xv_told (h : Xv M p r = some n) : M p r = some (n, true) := by
  unfold Xv at h
  split at h
  · rename_i e; cases h; exact e
  · cases h
theorem Xv_of (h : M p r = some (n, true)) : Xv M p r = some n := by unfold Xv; rw [h]
theorem TI.x0 (h : TI c fr tg Q Ld M Wy) (r : Int) : Xv M 0 r = none := by
  unfold Xv
  rw [h.nq 0 r (h.q0 r)]
theorem TI.unt_q (h : TI c fr tg Q Ld M Wy) (k : unt M p r) : Q p r := by
  by_cases hq : Q p r
  · exact hq
  · obtain ⟨n, e⟩ := k
    rw [h.nq p r hq] at e
    cases e
/-- All that may be known behind a source is told there, if that isn't blocked. -/
theorem TI.out (h : TI c fr tg Q Ld M Wy) (hk : Okc c) (hr : 0 ≤ r) (hs : Rc c s) (hx : c[s]? = some x) (hl : Ld s r ≠ []) (hb : ¬ Blk c M s r) {G : Nat → Int → Option Int} (hG : Cons c G) {m : Int} (hm : bhF (G s) x r = some m) : bX c M s r = some m := by
  by_cases hd : dfn c s = r
  · rw [bhF_yes hx hk hr hd] at hm
    rw [bX_yes hx hd]
    refine vl_nds hx hk (fun nd hnd m hg => ?_) hm
    rcases h.cl s r hl with h0 | ⟨-, hq⟩ | ⟨h1, -⟩
    · subst h0
      rw [hG.1 nd] at hg
      cases hg
    · exact Xv_of (h.up G hG s nd hs (hq nd hnd) (fun hu => hb (.inl ⟨hd, nd, hnd, hu⟩)) m hg)
    · exact absurd hd h1
  · rw [bhF_no hx hk hr hd] at hm
    rw [bX_no hd]
    rcases h.cl s r hl with h0 | ⟨h1, -⟩ | ⟨-, hq⟩
    · subst h0
      rw [hG.1 r] at hm
      cases hm
    · exact absurd h1 hd
    · exact Xv_of (h.up G hG s r hs hq (fun hu => hb (.inr ⟨hd, hu⟩)) m hm)
/-- What is known ahead of a place is known behind each source of it. -/
theorem cons_src (hS : Stp c fr tg) (hk : Okc c) (hr : 0 ≤ r) {G : Nat → Int → Option Int} (hG : Cons c G) {m : Int} (hq : Rc c q) (k : Src c fr tg r q s) : ∀ {x : Ic}, c[q]? = some x → bhF (G q) x r = some m → ∃ y, c[s]? = some y ∧ bhF (G s) y r = some m := by
  induction hq generalizing s with
  | zero h0 =>
    intro x hx hm
    cases k with
    | stop _ => exact ⟨x, hx, hm⟩
    | back _ h2 _ => rw [hS.zero h0] at h2; cases h2
  | @on i j hi hj ih =>
    intro x hx hm
    cases k with
    | stop _ => exact ⟨x, hx, hm⟩
    | back h1 h2 hk2 =>
      rw [bhF_no hx hk hr h1] at hm
      rw [(hS.pd (.on hi hj) h2 hi hj).1] at hk2
      have hlt := hi.lt
      have hxi : c[i]? = some c[i] := List.getElem?_eq_getElem hlt
      exact ih hk2 hxi (hG.2 i _ j hxi hi hj r m hm)
/-- When nothing waits, all that was asked for is told. -/
theorem TI.all_told (h : TI c fr tg Q Ld M Wy) (hS : Stp c fr tg) (hW : ∀ s r p, ¬ Wy s r p) (hp : Rc c p) : (∀ r, Q p r → ¬ unt M p r) ∧ ∀ r s, Src c fr tg r p s → ∀ r', Q s r' → ¬ unt M s r' := by
  induction hp with
  | zero h0 =>
    refine ⟨fun r hq => absurd hq (h.q0 r), fun r s k r' hq => ?_⟩
    cases k with
    | stop _ => exact absurd hq (h.q0 r')
    | back _ h2 _ => rw [hS.zero h0] at h2; cases h2
  | @on i j hi hj ih =>
    have h1 : ∀ r, Q j r → ¬ unt M j r := fun r hq => by
      obtain ⟨s, hs, -⟩ := hS.src r hi
      have hm := h.ld j r i s hq ((hS.mem j i).2 ⟨hi, hj⟩) hs
      rcases h.pn s r j hm with hw | hb | hd
      · exact absurd hw (hW s r j)
      · exfalso
        rcases hb with ⟨-, nd, -, hu⟩ | ⟨-, hu⟩
        · exact ih.2 r s hs nd (h.unt_q hu) hu
        · exact ih.2 r s hs r (h.unt_q hu) hu
      · exact hd.1
    refine ⟨h1, fun r s k r' hq => ?_⟩
    cases k with
    | stop _ => exact h1 r' hq
    | back _ h2 k2 =>
      rw [(hS.pd (.on hi hj) h2 hi hj).1] at k2
      exact ih.2 r s k2 r' hq
/-- What is told, put together to what may be known. -/
noncomputable def gX (c : List Ic) (fr : Nat → List Nat) (tg : Nat → Bool) (Ld : Nat → Int → List Nat) (M : Km) (p : Nat) (r : Int) : Option Int := by
  classical
  exact if p = 0 ∨ r < 0 then none else if tg p = true then Xv M p r else if h : ∃ s, Src c fr tg r (pd fr p) s then (if Ld h.choose r ≠ [] then bX c M h.choose r else none) else none
theorem gX_zero : gX c fr tg Ld M 0 r = none := by
  unfold gX
  rw [if_pos (.inl rfl)]
theorem gX_neg (hr : r < 0) : gX c fr tg Ld M p r = none := by
  unfold gX
  rw [if_pos (.inr hr)]
theorem gX_tg (hp : p ≠ 0) (hr : 0 ≤ r) (ht : tg p = true) : gX c fr tg Ld M p r = Xv M p r := by
  unfold gX
  rw [if_neg (by omega), if_pos ht]
theorem gX_src (hp : p ≠ 0) (hr : 0 ≤ r) (ht : tg p = false) (k : Src c fr tg r (pd fr p) s) : gX c fr tg Ld M p r = if Ld s r ≠ [] then bX c M s r else none := by
  unfold gX
  rw [if_neg (by omega), if_neg (by rw [ht]; simp)]
  have hex : ∃ s, Src c fr tg r (pd fr p) s := ⟨s, k⟩
  rw [dif_pos hex]
  have := hex.choose_spec.one k
  rw [this]
/-- .. it holds all that is told. -/
theorem TI.told_gX (h : TI c fr tg Q Ld M Wy) (hS : Stp c fr tg) (hW : ∀ s r p, ¬ Wy s r p) (hp : Rc c p) (hq : Q p r) (hv : Xv M p r = some n) : gX c fr tg Ld M p r = some n := by
  have hr := h.qr p r hq
  cases hp with
  | zero h0 => exact absurd hq (h.q0 r)
  | @on i j hi hj =>
    have hp0 : p ≠ 0 := fun e => by subst e; exact h.q0 r hq
    cases ht : tg p with
    | true => rw [gX_tg hp0 hr ht]; exact hv
    | false =>
      have he := hS.pd (.on hi hj) ht hi hj
      obtain ⟨s, hs, -⟩ := hS.src r hi
      rw [gX_src hp0 hr ht (by rw [he.1]; exact hs)]
      have hm := h.ld p r i s hq ((hS.mem p i).2 ⟨hi, hj⟩) hs
      rw [if_pos (fun e => by rw [e] at hm; cases hm)]
      rcases h.pn s r p hm with hw | hb | hd
      · exact absurd hw (hW s r p)
      · exfalso
        have hi2 := (h.all_told hS hW hi).2 r s hs
        rcases hb with ⟨-, nd, -, hu⟩ | ⟨-, hu⟩
        · exact hi2 nd (h.unt_q hu) hu
        · exact hi2 r (h.unt_q hu) hu
      · exact hd.2 n hv
/-- What a source tells is known behind the place from which it is asked. -/
theorem TI.src_gX (h : TI c fr tg Q Ld M Wy) (hS : Stp c fr tg) (hk : Okc c) (hW : ∀ s r p, ¬ Wy s r p) (hr : 0 ≤ r) (hq : Rc c q) (hx : c[q]? = some x) (k : Src c fr tg r q s) (hl : Ld s r ≠ []) (hv : bX c M s r = some n) : bhF (gX c fr tg Ld M q) x r = some n := by
  cases k with
  | stop hst =>
    by_cases hd : dfn c q = r
    · rw [bhF_yes hx hk hr hd]
      rw [bX_yes hx hd] at hv
      refine vl_nds hx hk (fun nd hnd m hm => ?_) hv
      rcases h.cl q r hl with h0 | ⟨-, hQ⟩ | ⟨h1, -⟩
      · subst h0; rw [h.x0 nd] at hm; cases hm
      · exact h.told_gX hS hW hq (hQ nd hnd) hm
      · exact absurd hd h1
    · rw [bhF_no hx hk hr hd]
      rw [bX_no hd] at hv
      rcases h.cl q r hl with h0 | ⟨h1, -⟩ | ⟨-, hQ⟩
      · subst h0; rw [h.x0 r] at hv; cases hv
      · exact absurd h1 hd
      · exact h.told_gX hS hW hq hQ hv
  | back h1 h2 k2 =>
    rw [bhF_no hx hk hr h1]
    have hq0 : q ≠ 0 := fun e => by
      subst e
      have := hS.zero hq.lt
      rw [this] at h2
      cases h2
    rw [gX_src hq0 hr h2 k2, if_pos hl]
    exact hv
theorem TI.cons (h : TI c fr tg Q Ld M Wy) (hS : Stp c fr tg) (hk : Okc c) (hW : ∀ s r p, ¬ Wy s r p) : Cons c (gX c fr tg Ld M) := by
  refine ⟨fun r => gX_zero, fun i x j hx hi hj r n hv => ?_⟩
  by_cases hr : r < 0
  · rw [gX_neg hr] at hv; cases hv
  have hr : 0 ≤ r := by omega
  have hj0 : j ≠ 0 := fun e => by subst e; rw [gX_zero] at hv; cases hv
  obtain ⟨s, hs, hsr⟩ := hS.src r hi
  cases ht : tg j with
  | true =>
    rw [gX_tg hj0 hr ht] at hv
    have hQ : Q j r := by
      by_cases hq : Q j r
      · exact hq
      · have := Xv_told hv
        rw [h.nq j r hq] at this
        cases this
    have hm := h.ld j r i s hQ ((hS.mem j i).2 ⟨hi, hj⟩) hs
    rcases h.pn s r j hm with hw | hb | hd
    · exact absurd hw (hW s r j)
    · exfalso
      have hi2 := (h.all_told hS hW hi).2 r s hs
      rcases hb with ⟨-, nd, -, hu⟩ | ⟨-, hu⟩
      · exact hi2 nd (h.unt_q hu) hu
      · exact hi2 r (h.unt_q hu) hu
    · exact h.src_gX hS hk hW hr hi hx hs (fun e => by rw [e] at hm; cases hm) (hd.2 n hv)
  | false =>
    have he := hS.pd (.on hi hj) ht hi hj
    rw [gX_src hj0 hr ht (by rw [he.1]; exact hs)] at hv
    by_cases hl : Ld s r ≠ []
    · rw [if_pos hl] at hv
      exact h.src_gX hS hk hW hr hi hx hs hl hv
    · rw [if_neg hl] at hv
      cases hv
/-- What was asked for is known just as it is told. -/
theorem TI.kn (h : TI c fr tg Q Ld M Wy) (hS : Stp c fr tg) (hk : Okc c) (hW : ∀ s r p, ¬ Wy s r p) (hq : Q p r) (hp : Rc c p) : Xv M p r = some n ↔ Kn c p r n := by
  constructor
  · exact fun hv => ⟨hp, _, h.cons hS hk hW, h.told_gX hS hW hp hq hv⟩
  · rintro ⟨-, G, hG, hm⟩
    exact Xv_of (h.up G hG p r hp hq ((h.all_told hS hW hp).1 r hq) n hm)
end
end Go.Proofs.YtgdhgipofaaogaaDoor
namespace Go.Proofs.YtgdhgipofaaogaaDoor
open Gm

def setM (M : Km) (p : Nat) (r : Int) (v : Option (Int × Bool)) : Km := fun q t => if q = p ∧ t = r then v else M q t
theorem setM_at (M : Km) (p : Nat) (r : Int) (v : Option (Int × Bool)) : setM M p r v p r = v := if_pos ⟨rfl, rfl⟩
theorem setM_of {M : Km} {p q : Nat} {r t : Int} {v : Option (Int × Bool)} (h : ¬ (q = p ∧ t = r)) : setM M p r v q t = M q t := if_neg h
/-- What a place knows behind one way's telling. -/
def comeM (M : Km) (p : Nat) (r : Int) (b : Option Int) : Km := match M p r with
  | none => M
  | some (k, true) => if b = some k then M else setM M p r none
  | some (_, false) => (match b with | some n => setM M p r (some (n, true)) | none => setM M p r none)
/-- Whether that is something new. -/
def newM (M : Km) (p : Nat) (r : Int) (b : Option Int) : Bool := match M p r with
  | none => false
  | some (k, true) => decide (b ≠ some k)
  | some (_, false) => true
section
variable {c : List Ic} {fr : Nat → List Nat} {tg : Nat → Bool} {Q : Nat → Int → Prop} {Ld : Nat → Int → List Nat} {M : Km} {Wy : Nat → Int → Nat → Prop} {p q s : Nat} {r n : Int} {x : Ic}
theorem TI.weak {Wz : Nat → Int → Nat → Prop} (h : TI c fr tg Q Ld M Wy) (hw : ∀ s r p, p ∈ Ld s r → Wy s r p → Wz s r p ∨ Blk c M s r) : TI c fr tg Q Ld M Wz := ⟨h.q0, h.qr, h.nq, h.ld, h.lq, h.cl, h.up, fun s r p hm => by
  rcases h.pn s r p hm with a | a | a
  · rcases hw s r p hm a with b | b
    · exact .inl b
    · exact .inr (.inl b)
  · exact .inr (.inl a)
  · exact .inr (.inr a)⟩
/-- What a change of one fact may change. -/
def Dep (c : List Ic) (p : Nat) (r : Int) (a : Nat) (b : Int) : Prop := a = p ∧ ((b = r ∧ dfn c p ≠ r) ∨ (b = dfn c p ∧ r ∈ nds c p))
theorem bX_same (hk : Okc c) {v : Option (Int × Bool)} {a : Nat} {b : Int} (hd : ¬ Dep c p r a b) : bX c (setM M p r v) a b = bX c M a b := by
  unfold bX
  by_cases e : b = dfn c a
  · rw [if_pos e, if_pos e]
    cases hx : c[a]? with
    | none => rfl
    | some x =>
      simp only
      have hs : ∀ nd, nd ∈ nds c a → Xv (setM M p r v) a nd = Xv M a nd := fun nd hnd => by
        unfold Xv
        rw [setM_of fun ⟨e1, e2⟩ => hd ⟨e1, .inr ⟨by rw [e, e1], by rw [← e1, ← e2]; exact hnd⟩⟩]
      cases hv : vl (Xv M a) x with
      | some n => exact vl_nds hx hk (fun nd hnd m hm => by rw [hs nd hnd]; exact hm) hv
      | none =>
        cases hv2 : vl (Xv (setM M p r v) a) x with
        | none => rfl
        | some n =>
          have := vl_nds hx hk (g := Xv M a) (fun nd hnd m hm => by rw [← hs nd hnd]; exact hm) hv2
          rw [hv] at this
          cases this
  · rw [if_neg e, if_neg e]
    unfold Xv
    rw [setM_of fun ⟨e1, e2⟩ => hd ⟨e1, .inl ⟨e2, fun k => e (by rw [e1, k, e2])⟩⟩]
theorem Blk_same {v : Option (Int × Bool)} {a : Nat} {b : Int} (hd : ¬ Dep c p r a b) (h : Blk c M a b) : Blk c (setM M p r v) a b := by
  rcases h with ⟨h1, nd, h2, m, h3⟩ | ⟨h1, m, h3⟩
  · refine .inl ⟨h1, nd, h2, m, ?_⟩
    rw [setM_of fun ⟨e1, e2⟩ => hd ⟨e1, .inr ⟨by rw [← e1, h1], by rw [← e1, ← e2]; exact h2⟩⟩]
    exact h3
  · refine .inr ⟨h1, m, ?_⟩
    rw [setM_of fun ⟨e1, e2⟩ => hd ⟨e1, .inl ⟨e2, by rw [← e1, ← e2]; exact h1⟩⟩]
    exact h3
/-- What may be known ahead of a place is told by each of its sources that isn't blocked. -/
theorem TI.upper (h : TI c fr tg Q Ld M Wy) (hS : Stp c fr tg) (hk : Okc c) (hm : p ∈ Ld s r) (hb : ¬ Blk c M s r) {G : Nat → Int → Option Int} (hG : Cons c G) {m : Int} (hg : G p r = some m) : bX c M s r = some m := by
  obtain ⟨hQ, q, hq, hs⟩ := h.lq s r p hm
  have hr := h.qr p r hQ
  obtain ⟨hqr, hpo⟩ := (hS.mem p q).1 hq
  have hlt := hqr.lt
  have hx : c[q]? = some c[q] := List.getElem?_eq_getElem hlt
  obtain ⟨y, hy, hb2⟩ := cons_src hS hk hr hG hqr hs hx (hG.2 q _ p hx hqr hpo r m hg)
  exact h.out hk hr (hs.rc hS hqr) hy (fun e => by rw [e] at hm; cases hm) hb hG hb2
/-- One way tells. -/
theorem TI.come {Wq Wr : Nat → Int → Prop} {rest : List Nat} {b : Option Int} (hk : Okc c) (h : TI c fr tg Q Ld M fun a t p' => Wq a t ∨ (a = s ∧ t = r ∧ p' ∈ p :: rest)) (hpl : p ∈ Ld s r)
    (hU : ∀ G, Cons c G → ∀ m, G p r = some m → b = some m) (hs : Wq s r ∨ bX c M s r = b) (hW : ∀ a t, Wq a t → Wr a t) (hpush : newM M p r b = true → ∀ t, Ld p t ≠ [] → Dep c p r p t → Wr p t) :
    TI c fr tg Q Ld (comeM M p r b) (fun a t p' => Wr a t ∨ (a = s ∧ t = r ∧ p' ∈ rest)) ∧ (Wr s r ∨ bX c (comeM M p r b) s r = b) := by
  have hQ := (h.lq s r p hpl).1
  -- nothing new
  have same : comeM M p r b = M → ¬ unt M p r → (∀ n, Xv M p r = some n → b = some n) → TI c fr tg Q Ld (comeM M p r b) (fun a t p' => Wr a t ∨ (a = s ∧ t = r ∧ p' ∈ rest)) ∧ (Wr s r ∨ bX c (comeM M p r b) s r = b) := fun e hn hv => by
    rw [e]
    refine ⟨⟨h.q0, h.qr, h.nq, h.ld, h.lq, h.cl, h.up, fun a t p' hm => ?_⟩, hs.imp (hW _ _) id⟩
    rcases h.pn a t p' hm with (k | ⟨rfl, rfl, k⟩) | k | k
    · exact .inl (.inl (hW _ _ k))
    · rcases List.mem_cons.1 k with rfl | k
      · rcases hs with hs | hs
        · exact .inl (.inl (hW _ _ hs))
        · exact .inr (.inr ⟨hn, fun n hx => by rw [hs, hv n hx]⟩)
      · exact .inl (.inr ⟨rfl, rfl, k⟩)
    · exact .inr (.inl k)
    · exact .inr (.inr k)
  -- something new
  have new : ∀ v : Option (Int × Bool), (v = none ∨ ∃ n, v = some (n, true) ∧ b = some n ∧ unt M p r) → (∀ G, Cons c G → Rc c p → ∀ m, G p r = some m → v = some (m, true)) → newM M p r b = true → TI c fr tg Q Ld (setM M p r v) (fun a t p' => Wr a t ∨ (a = s ∧ t = r ∧ p' ∈ rest)) ∧ (Wr s r ∨ bX c (setM M p r v) s r = b) := fun v hv hup hnew => by
    have hvu : ¬ unt (setM M p r v) p r := fun ⟨n, e⟩ => by
      rw [setM_at] at e
      rcases hv with hv | ⟨m, hv, -⟩ <;> (rw [hv] at e; cases e)
    have hlast : Wr s r ∨ bX c (setM M p r v) s r = b := by
      by_cases hd : Dep c p r s r
      · have hsp := hd.1
        exact .inl (by rw [hsp]; exact hpush hnew r (fun e => by rw [hsp, e] at hpl; cases hpl) (hsp ▸ hd))
      · rw [bX_same hk hd]
        exact hs.imp (hW _ _) id
    refine ⟨⟨h.q0, h.qr, fun p' t hq => ?_, h.ld, h.lq, h.cl, fun G hG p' t hp hq hn m hg => ?_, fun a t p' hm => ?_⟩, hlast⟩
    · rw [setM_of fun ⟨e1, e2⟩ => hq (by rw [e1, e2]; exact hQ)]
      exact h.nq p' t hq
    · by_cases e : p' = p ∧ t = r
      · obtain ⟨rfl, rfl⟩ := e
        rw [setM_at]
        exact hup G hG hp m hg
      · have hn' : ¬ unt M p' t := fun ⟨z, hz⟩ => hn ⟨z, by rw [setM_of e]; exact hz⟩
        rw [setM_of e]
        exact h.up G hG p' t hp hq hn' m hg
    · by_cases hd : Dep c p r a t
      · have ha := hd.1
        subst ha
        exact .inl (.inl (hpush hnew t (fun e => by rw [e] at hm; cases hm) hd))
      · rw [bX_same hk hd]
        rcases h.pn a t p' hm with (k | ⟨rfl, rfl, k⟩) | k | k
        · exact .inl (.inl (hW _ _ k))
        · rcases List.mem_cons.1 k with rfl | k
          · rcases hs with hs | hs
            · exact .inl (.inl (hW _ _ hs))
            · refine .inr (.inr ⟨hvu, fun n hx => ?_⟩)
              rcases hv with hv | ⟨m, hv, hbm, -⟩
              · unfold Xv at hx; rw [setM_at, hv] at hx; cases hx
              · unfold Xv at hx; rw [setM_at, hv] at hx; cases hx; rw [hs, hbm]
          · exact .inl (.inr ⟨rfl, rfl, k⟩)
        · exact .inr (.inl (Blk_same hd k))
        · by_cases e : p' = p ∧ t = r
          · obtain ⟨rfl, rfl⟩ := e
            refine .inr (.inr ⟨hvu, fun n hx => ?_⟩)
            rcases hv with hv | ⟨m, hv, -, hun⟩
            · unfold Xv at hx; rw [setM_at, hv] at hx; cases hx
            · exact absurd hun k.1
          · refine .inr (.inr ⟨fun ⟨z, hz⟩ => k.1 ⟨z, by rw [setM_of e] at hz; exact hz⟩, fun n hx => k.2 n ?_⟩)
            unfold Xv at hx ⊢
            rw [setM_of e] at hx
            exact hx
  cases hM : M p r with
  | none => exact same (by unfold comeM; rw [hM]) (fun ⟨n, e⟩ => by rw [hM] at e; cases e) fun n hx => by unfold Xv at hx; rw [hM] at hx; cases hx
  | some v =>
    obtain ⟨k, t⟩ := v
    cases t with
    | true =>
      by_cases hb : b = some k
      · exact same (by unfold comeM; rw [hM]; simp [hb]) (fun ⟨n, e⟩ => by rw [hM] at e; cases e) fun n hx => by unfold Xv at hx; rw [hM] at hx; cases hx; exact hb
      · have e : comeM M p r b = setM M p r none := by unfold comeM; rw [hM]; simp [hb]
        rw [e]
        refine new none (.inl rfl) (fun G hG hp m hg => ?_) (by unfold newM; rw [hM]; simp [hb])
        have h1 := hU G hG m hg
        have h2 := h.up G hG p r hp hQ (fun ⟨n, e⟩ => by rw [hM] at e; cases e) m hg
        rw [hM] at h2
        cases h2
        exact absurd h1 hb
    | false =>
      have hun : unt M p r := ⟨k, hM⟩
      cases b with
      | some n =>
        have e : comeM M p r (some n) = setM M p r (some (n, true)) := by unfold comeM; rw [hM]
        rw [e]
        exact new _ (.inr ⟨n, rfl, rfl, hun⟩) (fun G hG hp m hg => by have := hU G hG m hg; cases this; rfl) (by unfold newM; rw [hM])
      | none =>
        have e : comeM M p r none = setM M p r none := by unfold comeM; rw [hM]
        rw [e]
        exact new none (.inl rfl) (fun G hG hp m hg => by have := hU G hG m hg; cases this) (by unfold newM; rw [hM])
/-- What was asked, before anything is told. -/
structure AI (c : List Ic) (fr : Nat → List Nat) (tg : Nat → Bool) (Q : Nat → Int → Prop) (Ld : Nat → Int → List Nat) (Wq Aq : Nat → Int → Prop) : Prop where
  q0 : ∀ r, ¬ Q 0 r
  qr : ∀ p r, Q p r → 0 ≤ r
  ar : ∀ p r, Aq p r → 0 ≤ r
  ld : ∀ p r q s, Q p r → q ∈ fr p → Src c fr tg r q s → p ∈ Ld s r
  lq : ∀ s r p, p ∈ Ld s r → Q p r ∧ ∃ q, q ∈ fr p ∧ Src c fr tg r q s
  cl : ∀ s r, Ld s r ≠ [] → ((s = 0 ∨ (dfn c s = r ∧ nds c s = [])) ∧ Wq s r) ∨ (s ≠ 0 ∧ dfn c s = r ∧ nds c s ≠ [] ∧ ∀ nd, nd ∈ nds c s → Q s nd ∨ Aq s nd) ∨ (s ≠ 0 ∧ dfn c s ≠ r ∧ (Q s r ∨ Aq s r))
open Classical in
/-- All that was asked for: nothing of it is told. -/
noncomputable def m0 (Q : Nat → Int → Prop) : Km := fun p r => if Q p r then some (0, false) else none
theorem AI.ti {Wq Aq : Nat → Int → Prop} (h : AI c fr tg Q Ld Wq Aq) (ha : ∀ p r, ¬ Aq p r) {M : Km} (hM : ∀ p r, (Q p r → M p r = some (0, false)) ∧ (¬ Q p r → M p r = none)) : TI c fr tg Q Ld M fun s r _ => Wq s r := by
  have hu : ∀ p r, Q p r → unt M p r := fun p r hq => ⟨0, (hM p r).1 hq⟩
  refine ⟨h.q0, h.qr, fun p r hq => (hM p r).2 hq, h.ld, h.lq, fun s r hl => ?_, fun G hG p r hp hq hn => absurd (hu p r hq) hn, fun s r p hm => ?_⟩
  · rcases h.cl s r hl with ⟨h0 | ⟨h1, h2⟩, -⟩ | ⟨-, h1, -, h2⟩ | ⟨-, h1, h2⟩
    · exact .inl h0
    · exact .inr (.inl ⟨h1, fun nd hnd => by rw [h2] at hnd; cases hnd⟩)
    · exact .inr (.inl ⟨h1, fun nd hnd => (h2 nd hnd).resolve_right (ha s nd)⟩)
    · exact .inr (.inr ⟨h1, h2.resolve_right (ha s r)⟩)
  · rcases h.cl s r (fun e => by rw [e] at hm; cases hm) with ⟨-, hw⟩ | ⟨h0, h1, h3, h2⟩ | ⟨h0, h1, h2⟩
    · exact .inl hw
    · cases hn : nds c s with
      | nil => exact absurd hn h3
      | cons nd l => exact .inr (.inl (.inl ⟨h1, nd, by rw [hn]; simp, hu s nd ((h2 nd (by rw [hn]; simp)).resolve_right (ha s nd))⟩))
    · exact .inr (.inl (.inr ⟨h1, hu s r (h2.resolve_right (ha s r))⟩))
end
end Go.Proofs.YtgdhgipofaaogaaDoor
namespace Go.Proofs.YtgdhgipofaaogaaDoor
open Go Go.RowKit Gm

/-- Whose a block is. -/
inductive Ob where
  | no | f | qr (k : Nat) | qp (k : Nat) | q (k i : Nat) | kb | km (i : Nat) | lb | lm (i : Nat) | lr (i : Nat) (r : Int)
  deriving DecidableEq
/-- A queue in memory: the places that wait, and the registers that wait at each. -/
structure QM (B : Nat) (own : Nat → Ob) (W : World) (k n : Nat) (vP : Value) (rb : Nat) (RV : Nat → Value) (P : List Nat) (R : Nat → List Int) : Prop where
  orb : own rb = .qr k
  fv : FV 64 W rb n RV
  sp : SR B W vP (P.map Int.ofNat)
  op : ∀ g, vP.ownBlock = some g → own g = .qp k
  sr : ∀ i, i < n → SR B W (RV i) (R i)
  oq : ∀ i g, i < n → (RV i).ownBlock = some g → own g = .q k i
theorem QM.ch {B : Nat} {own own' : Nat → Ob} {W X : World} {k n : Nat} {vP : Value} {rb : Nat} {RV : Nat → Value} {P : List Nat} {R : Nat → List Int} {S : Nat → Prop} (h : QM B own W k n vP rb RV P R) (hc : Ch S W X) (ho : ∀ b, b < W.heap.size → own' b = own b) (hS : ∀ b, own b = .qr k ∨ own b = .qp k ∨ (∃ i, own b = .q k i) → ¬ S b) : QM B own' X k n vP rb RV P R where
  orb := by rw [ho _ h.fv.lt]; exact h.orb
  fv := h.fv.ch hc (hS _ (.inl h.orb))
  sp := h.sp.ch hc fun g e => hS _ (.inr (.inl (h.op g e)))
  op := fun g e => by rw [ho _ (h.sp.lt g e).2]; exact h.op g e
  sr := fun i hi => (h.sr i hi).ch hc fun g e => hS _ (.inr (.inr ⟨i, h.oq i g hi e⟩))
  oq := fun i g hi e => by rw [ho _ ((h.sr i hi).lt g e).2]; exact h.oq i g hi e
def putP (P : List Nat) (R : Nat → List Int) (a : Nat) : List Nat := if R a = [] then P ++ [a] else P
def putR (R : Nat → List Int) (a : Nat) (r : Int) : Nat → List Int := fun i => if i = a then R a ++ [r] else R i
/-- Only a queue's own blocks are written, and the cell of its places. -/
def QS (own : Nat → Ob) (g k : Nat) (z : Nat) : Prop := z = g ∨ own z = .qr k ∨ own z = .qp k ∨ ∃ i, own z = .q k i
def PutP (B : Nat) (own : Nat → Ob) (W : World) (g k n rb : Nat) (F RV : Nat → Value) (P : List Nat) (R : Nat → List Int) (a : Nat) (r : Int) (e : Ending) (w' : World) : Prop :=
  ∃ (v0 vP : Value) (own' : Nat → Ob) (RV' : Nat → Value), e = .returned v0 ∧ (∀ b, b < W.heap.size → own' b = own b) ∧ FV 69 w' g 8 (upd F k vP) ∧ QM B own' w' k n vP rb RV' (putP P R a) (putR R a r) ∧ Ch (QS own g k) W w'
theorem wpList_append_sr {B : Nat} {W : World} {ops : Array Oper} {rest : List Oper} {o : Oper} {a : Act} {Q : Exit → Act → World → Prop} (hgd : o.guard = none) (s x : Operand) (t : TypeId)
    (ho : o.op = .call { callee := .builtin .append, args := #[s, x], argTypes := #[t, t] }) (ht : Tryd.prog.underlying t = some (.slice 3))
    (v : Value) (l : List Int) (hs : a.eval s = v) (hv : SR B W v l) (hB : B ≤ W.heap.size) (hl : l.length ≤ 10000000) (ad : Addr) (c : Nat) (xx : Int) (hx : a.eval x = .slice (some ad) 1 c) (ha : W.cell? (ad.add 0) = some (.int .i64 xx))
    (h : ∀ v' w', SR B w' v' (l ++ [xx]) → W.grownBy w' v.ownBlock → (v'.ownBlock = v.ownBlock ∨ ∃ g, v'.ownBlock = some g ∧ W.heap.size ≤ g) → wpList Tryd.prog ops Q rest (a.put o.dst v') w') :
    wpList Tryd.prog ops Q (o :: rest) a W := by
  refine wpList_plain hgd fun K hK => ?_
  obtain ⟨v', w', hr, h2, h3, h4⟩ := run_append_sr t o.type ht hv hB hl ad c ha
  unfold Oper.wp execOp
  simp only [ho, resolve, invoke, builtin, Sem.run_bind, Sem.run_pure, Result.andThen_ok, List.map_toArray, List.map_cons, List.map_nil, hs, hx, hr]
  exact hK _ _ (h v' w' h2 h3 h4)
theorem wpOp_sr {B : Nat} {W : World} {ops : Array Oper} {Q : Exit → Act → World → Prop} {K : Act → World → Prop} {a : Act} {j : Nat} {o : Oper} (d : Option Tmp) (hj : ops[j]? = some o) (hd : o.dst = d) (hw : Region.wanted o (yielded ops a.tmps) = true) (s x : Operand) (t : TypeId)
    (ho : o.op = .call { callee := .builtin .append, args := #[s, x], argTypes := #[t, t] }) (ht : Tryd.prog.underlying t = some (.slice 3))
    (v : Value) (l : List Int) (hs : a.eval s = v) (hv : SR B W v l) (hB : B ≤ W.heap.size) (hl : l.length ≤ 10000000) (ad : Addr) (c : Nat) (xx : Int) (hx : a.eval x = .slice (some ad) 1 c) (ha : W.cell? (ad.add 0) = some (.int .i64 xx))
    (h : ∀ v' w', SR B w' v' (l ++ [xx]) → W.grownBy w' v.ownBlock → (v'.ownBlock = v.ownBlock ∨ ∃ g, v'.ownBlock = some g ∧ W.heap.size ≤ g) → K (a.put d v') w') : wpOp Tryd.prog ops Q j K a W := by
  subst hd
  obtain ⟨v', w', hr, h2, h3, h4⟩ := run_append_sr t o.type ht hv hB hl ad c ha
  unfold wpOp
  rw [hj]
  simp only
  rw [if_pos hw]
  refine .inl ?_
  unfold Oper.wp execOp
  simp only [ho, resolve, invoke, builtin, Sem.run_bind, Sem.run_pure, Result.andThen_ok, List.map_toArray, List.map_cons, List.map_nil, hs, hx, hr]
  exact h v' w' h2 h3 h4
/-- Whose blocks are, with a new one. -/
def ownN (own : Nat → Ob) (C : Nat) (v : Value) (t : Ob) : Nat → Ob := fun b => if C ≤ b ∧ v.ownBlock = some b then t else own b
theorem ownN_old {own : Nat → Ob} {C b : Nat} {v : Value} {t : Ob} (h : b < C) : ownN own C v t b = own b := if_neg (by omega)
theorem ownN_at {own : Nat → Ob} {C g : Nat} {v u : Value} {t : Ob} (ho : ∀ g, u.ownBlock = some g → own g = t) (hv : v.ownBlock = u.ownBlock ∨ ∃ g, v.ownBlock = some g ∧ C ≤ g) (e : v.ownBlock = some g) : ownN own C v t g = t := by
  unfold ownN
  by_cases h : C ≤ g
  · rw [if_pos ⟨h, e⟩]
  · rw [if_neg (by omega)]
    rcases hv with hv | ⟨g', hv, hC⟩
    · exact ho g (hv ▸ e)
    · rw [e] at hv
      cases hv
      omega
theorem upd_same {F : Nat → Value} {k : Nat} : upd F k (F k) = F := by
  funext q
  by_cases e : q = k
  · rw [e, upd_at]
  · rw [upd_of e]
/-- One more register waits at a place. -/
theorem QM.push {B : Nat} {own : Nat → Ob} {W w4 : World} {k n rb a : Nat} {vP v4 : Value} {RV : Nat → Value} {P : List Nat} {R : Nat → List Int} {r : Int} (h : QM B own W k n vP rb RV P R) (ha : a < n) (hc : Ch (fun z => z = rb ∨ (RV a).ownBlock = some z) W w4) (hfv : FV 64 w4 rb n RV) (hsr : SR B w4 v4 (R a ++ [r])) (hat : v4.ownBlock = (RV a).ownBlock ∨ ∃ g, v4.ownBlock = some g ∧ W.heap.size ≤ g) :
    QM B (ownN own W.heap.size v4 (.q k a)) (w4.setCell ⟨rb, a, none⟩ v4) k n vP rb (upd RV a v4) P (putR R a r) := by
  have hc2 : Ch (fun z => z = rb ∨ (RV a).ownBlock = some z) W (w4.setCell ⟨rb, a, none⟩ v4) := hc.set (.inl (.inl rfl)) _ _
  have hne : ∀ b, own b ≠ .qr k → own b ≠ .q k a → ¬ (b = rb ∨ (RV a).ownBlock = some b) := fun b h1 h2 e => by
    rcases e with e | e
    · exact h1 (e ▸ h.orb)
    · exact h2 (h.oq a b ha e)
  have hrl := h.fv.lt
  refine ⟨?_, hfv.set _ _, ?_, fun g e => ?_, fun i hi => ?_, fun i g hi e => ?_⟩
  · rw [ownN_old hrl]; exact h.orb
  · exact h.sp.ch hc2 fun g e => hne g (by rw [h.op g e]; simp) (by rw [h.op g e]; simp)
  · rw [ownN_old (h.sp.lt g e).2]; exact h.op g e
  · by_cases e : i = a
    · subst e
      rw [upd_at]
      unfold putR
      rw [if_pos rfl]
      refine hsr.of_heap fun g eg => heap_setCell_other w4 ⟨rb, i, none⟩ g v4 fun e2 => ?_
      have e2 : g = rb := e2
      rcases hat with hat | ⟨g', hg', hC⟩
      · have h1 := h.oq i g ha (hat ▸ eg)
        rw [e2, h.orb] at h1
        cases h1
      · rw [eg] at hg'
        cases hg'
        omega
    · rw [upd_of e]
      unfold putR
      rw [if_neg e]
      exact (h.sr i hi).ch hc2 fun g eg => hne g (by rw [h.oq i g hi eg]; simp) (by rw [h.oq i g hi eg]; simpa using e)
  · by_cases e1 : i = a
    · subst e1
      rw [upd_at] at e
      exact ownN_at (fun g eg => h.oq i g ha eg) hat e
    · rw [upd_of e1] at e
      rw [ownN_old ((h.sr i hi).lt g e).2]
      exact h.oq i g hi e
/-- One more place waits. -/
theorem QM.pushP {B : Nat} {own : Nat → Ob} {W w4 : World} {k n rb a : Nat} {vP v4 : Value} {RV : Nat → Value} {P : List Nat} {R : Nat → List Int} (h : QM B own W k n vP rb RV P R) (hc : Ch (fun z => vP.ownBlock = some z) W w4) (hsr : SR B w4 v4 ((P ++ [a]).map Int.ofNat)) (hat : v4.ownBlock = vP.ownBlock ∨ ∃ g, v4.ownBlock = some g ∧ W.heap.size ≤ g) :
    QM B (ownN own W.heap.size v4 (.qp k)) w4 k n v4 rb RV (P ++ [a]) R := by
  have hne : ∀ b, own b ≠ .qp k → ¬ vP.ownBlock = some b := fun b h1 e => h1 (h.op b e)
  refine ⟨?_, h.fv.ch hc (hne _ (by rw [h.orb]; simp)), hsr, fun g e => ownN_at h.op hat e, fun i hi => (h.sr i hi).ch hc fun g e => hne g (by rw [h.oq i g hi e]; simp), fun i g hi e => ?_⟩
  · rw [ownN_old h.fv.lt]; exact h.orb
  · rw [ownN_old ((h.sr i hi).lt g e).2]; exact h.oq i g hi e
end Go.Proofs.YtgdhgipofaaogaaDoor
namespace Go.Proofs.YtgdhgipofaaogaaDoor
open Go Go.RowKit Gm

set_option maxRecDepth 100000 in
set_option maxHeartbeats 4000000 in
theorem put_c {B : Nat} {own : Nat → Ob} {W : World} {g k n rb a : Nat} {F RV : Nat → Value} {P : List Nat} {R : Nat → List Int} {r : Int} (hF : Hid (FV 69 W g 8 F)) (hFr : F (k + 1) = .slice (some ⟨rb, 0, none⟩) n n) (hk : k + 1 < 8) (hQ : Hid (QM B own W k n (F k) rb RV P R)) (hog : own g = .f) (ha : a < n) (hn : n ≤ 5000) (hB : B ≤ W.heap.size) (hPl : P.length ≤ 1000000) (hRl : (R a).length ≤ 1000000) : Calls Tryd.prog 20 #[.pointer (some ⟨g, k, none⟩), .int .i64 a, .int .i64 r] W (PutP B own W g k n rb F RV P R a r) := by
  go_enter Tryd.func20, Tryd.ntmps20
  have hg0 := hF.out.lt
  have c1 := hF.out.cell (i := k + 1) (by omega)
  rw [hFr] at c1
  have ca := hQ.out.fv.cell ha
  have hr0 := hQ.out.fv.lt
  obtain ⟨pa, ka, ea⟩ := (hQ.out.sr a ha).form
  rw [ea] at ca
  have HEA := Lib.hid ea
  clear ea
  by_cases hE : R a = []
  · have hEl : (R a).length = 0 := by rw [hE]; rfl
    have he : (((R a).length : Int) == 0) = true := by rw [hEl]; rfl
    have HEl := Lib.hid hE
    have c0 := hF.out.cell (i := k) (by omega)
    have z0 := hF.out.frozen k
    obtain ⟨pp, kp, ep⟩ := hQ.out.sp.form
    rw [List.length_map] at ep
    rw [ep] at c0
    have HSP : Hid (SR B W (.slice pp P.length kp) (P.map Int.ofNat)) := Lib.hid (ep ▸ hQ.out.sp)
    have HEP := Lib.hid ep
    have hPm : (P.map Int.ofNat).length ≤ 1000000 := by rw [List.length_map]; exact hPl
    clear ep hE hEl
    go_upto_region 2 with (at_builtin; go_loud (refine wpList_append_sr (B := B) rfl _ _ 64 rfl Tryd.underlying64 (.slice pp P.length kp) (P.map Int.ofNat) rfl (HSP.out.stay ((Below.refl _ _).alloc (Nat.le_refl _) _)) (Nat.le_trans hB (by simp)) (by omega) ⟨W.heap.size, 0, none⟩ 1 (a : Int) rfl (by rw [Addr.add_zero', cell_of_row _ _ _ _ _ _ (heap_alloc_new _ _)]; try rfl) ?_; intro v3 w3 hsr3 hgr3 hat3; obtain ⟨p3, k3, rfl⟩ : ∃ p3 k3, v3 = Value.slice p3 (P.length + 1) k3 := (by (obtain ⟨p, k, e⟩ := hsr3.form); exact ⟨p, k, e.trans (by simp)⟩); have HSR3 := Lib.hid hsr3; have HAT3 := Lib.hid hat3; have HCH3 : Hid (Ch (fun z => (F k).ownBlock = some z) W w3) := Lib.hid (by rw [HEP.out]; exact ((Ch.refl _ _).alloc _).grown hgr3 fun z e => .inl e); have HF3 : Hid (FV 69 w3 g 8 F) := Lib.hid (hF.out.ch HCH3.out fun e => by (have h1 := hQ.out.op g e; rw [hog] at h1; cases h1)); have z0 := HF3.out.frozen k; have c0 := HF3.out.cell (i := k) (by omega); have hg3 := HF3.out.lt; clear hsr3 hgr3 hat3))
    refine name_world ?_
    intro W1 hW1
    have HQ3 : Hid (QM B (ownN own W.heap.size (Value.slice p3 (P.length + 1) k3) (.qp k)) w3 k n (Value.slice p3 (P.length + 1) k3) rb RV (P ++ [a]) R) := Lib.hid (hQ.out.pushP HCH3.out (by rw [List.map_append]; exact HSR3.out) (by
      rw [HEP.out]
      exact HAT3.out.imp id fun ⟨z, e, h⟩ => ⟨z, e, by simp at h; omega⟩))
    have hngq : g ≠ rb ∧ (∀ b, (ownN own W.heap.size (Value.slice p3 (P.length + 1) k3) (.qp k)) b = .qr k ∨ (ownN own W.heap.size (Value.slice p3 (P.length + 1) k3) (.qp k)) b = .qp k ∨ (∃ i, (ownN own W.heap.size (Value.slice p3 (P.length + 1) k3) (.qp k)) b = .q k i) → ¬ b = g) := ⟨fun e => (by have h1 := hQ.out.orb; rw [← e, hog] at h1; cases h1), fun b hb e => by rw [e, ownN_old hg0, hog] at hb; rcases hb with h | h | ⟨i, h⟩ <;> cases h⟩
    have hset : Ch (fun z => z = g) w3 W1 := by rw [hW1]; exact (Ch.refl (fun z => z = g) _).set (.inl rfl) _ _
    have HF1 : Hid (FV 69 W1 g 8 (upd F k (Value.slice p3 (P.length + 1) k3))) := Lib.hid (by rw [hW1]; exact HF3.out.set _ _)
    have HQ1 : Hid (QM B (ownN own W.heap.size (Value.slice p3 (P.length + 1) k3) (.qp k)) W1 k n (Value.slice p3 (P.length + 1) k3) rb RV (P ++ [a]) R) := Lib.hid (HQ3.out.ch hset (fun _ _ => rfl) hngq.2)
    have HCW : Hid (Ch (QS own g k) W W1) := Lib.hid ((HCH3.out.mono fun z _ e => .inr (.inr (.inl (hQ.out.op z e)))).trans (hset.mono fun z _ e => .inl e))
    have HOW : Hid (∀ b, b < W.heap.size → ownN own W.heap.size (Value.slice p3 (P.length + 1) k3) (.qp k) b = own b) := Lib.hid fun b hb => ownN_old hb
    have HPP : Hid (putP P R a = P ++ [a]) := Lib.hid (if_pos HEl.out)
    have hBW : B ≤ W1.heap.size := Nat.le_trans hB HCW.out.size
    have hFr1 : upd F k (Value.slice p3 (P.length + 1) k3) (k + 1) = .slice (some ⟨rb, 0, none⟩) n n := by rw [upd_of (by omega)]; exact hFr
    have hog1 : ownN own W.heap.size (Value.slice p3 (P.length + 1) k3) (.qp k) g = .f := by rw [ownN_old hg0]; exact hog
    clear hW1 c1 ca HEA hset hngq z0 c0 hg3
    have hg1 := HF1.out.lt
    have c1 := HF1.out.cell (i := k + 1) (by omega)
    rw [hFr1] at c1
    have hr1 := HQ1.out.fv.lt
    have ca := HQ1.out.fv.cell ha
    have hsa := HQ1.out.sr a ha
    obtain ⟨pa, ka, ea⟩ := hsa.form
    have hgr : g ≠ rb := fun e => by have h1 := HQ1.out.orb; rw [← e, hog1] at h1; cases h1
    rw [ea] at ca
    have HSA : Hid (SR B W1 (.slice pa (R a).length ka) (R a)) := Lib.hid (ea ▸ hsa)
    have hoa : ∀ z, (Value.slice pa (R a).length ka).ownBlock = some z → (ownN own W.heap.size (Value.slice p3 (P.length + 1) k3) (.qp k)) z = .q k a := fun z e => HQ1.out.oq a z ha (by rw [ea]; exact e)
    have hng : ¬ (g = rb ∨ (Value.slice pa (R a).length ka).ownBlock = some g) := fun h => by
      rcases h with h | h
      · exact hgr h
      · have h1 := hoa g h; rw [hog1] at h1; cases h1
    have hnrb : (Value.slice pa (R a).length ka).ownBlock ≠ some rb := fun e => by have h1 := hoa rb e; rw [HQ1.out.orb] at h1; cases h1
    have HEND : Hid (∀ (w4 : World) (p4 : Option Addr) (k4 : Nat), Ch (fun z => z = rb ∨ (Value.slice pa (R a).length ka).ownBlock = some z) W1 w4 → FV 64 w4 rb n RV → SR B w4 (Value.slice p4 (R a ++ [r]).length k4) (R a ++ [r]) → ((Value.slice p4 (R a ++ [r]).length k4).ownBlock = (Value.slice pa (R a).length ka).ownBlock ∨ ∃ g, (Value.slice p4 (R a ++ [r]).length k4).ownBlock = some g ∧ (W1.drew.alloc (.cells #[.int .i64 r] 3)).heap.size ≤ g) → PutP B own W g k n rb F RV P R a r (.returned (.tuple #[])) (w4.setCell ⟨rb, a, none⟩ (Value.slice p4 (R a ++ [r]).length k4))) := Lib.hid fun w4 p4 k4 hS4 hV4 hsr hat => by
      rw [← ea] at hS4 hat
      have hat2 : (Value.slice p4 (R a ++ [r]).length k4).ownBlock = (RV a).ownBlock ∨ ∃ g, (Value.slice p4 (R a ++ [r]).length k4).ownBlock = some g ∧ W1.heap.size ≤ g := hat.imp id fun ⟨g, e, h⟩ => ⟨g, e, by simp at h; omega⟩
      have hq := HQ1.out.push (r := r) ha hS4 hV4 hsr hat2
      have hSe : Ch (fun z => z = rb ∨ (RV a).ownBlock = some z) W1 (w4.setCell ⟨rb, a, none⟩ (Value.slice p4 (R a ++ [r]).length k4)) := hS4.set (.inl (.inl rfl)) _ _
      refine ⟨_, (Value.slice p3 (P.length + 1) k3), _, _, rfl, fun b hb => ?_, ?_, by rw [HPP.out]; exact hq, HCW.out.trans (Ch.mono hSe fun z hz e => ?_)⟩
      · exact (ownN_old (Nat.lt_of_lt_of_le hb HCW.out.size)).trans (HOW.out b hb)
      · exact HF1.out.ch hSe (by rw [ea]; exact hng)
      · rcases e with e | e
        · exact .inr (.inl (e ▸ hQ.out.orb))
        · exact .inr (.inr (.inr ⟨a, hQ.out.oq a z ha e⟩))
    clear hsa hoa ea
    go_upto_region 2 with (fail)
    refine region_held1 (fun w' => Ch (fun z => z = rb ∨ (Value.slice pa (R a).length ka).ownBlock = some z) W1 w') (by kernel_rfl) ?_
    show wpAnyH _ _ _ _ _ 17 _ _ _
    have hS0 : Ch (fun z => z = rb ∨ (Value.slice pa (R a).length ka).ownBlock = some z) W1 W1.drew := Ch.of (below_drew1 _)
    refine takeH (i := 0) (v := .pointer (some ⟨g, k, none⟩)) (some 25) rfl rfl (by kernel_rfl) (by kernel_rfl) (by kernel_rfl) (Or.inl ⟨by rfl, ?_⟩) hS0 ?_
    · intro y1 hS1
      go_simp
    simp only [Act.put, List.setIfInBounds_toArray, List.set_cons_zero, List.set_cons_succ]
    refine takeH (i := 1) (v := .pointer (some ⟨g, k, none⟩)) (some 26) rfl rfl (by kernel_rfl) (by kernel_rfl) (by kernel_rfl) (Or.inl ⟨by rfl, ?_⟩) hS0 ?_
    · intro y1 hS1
      go_simp
    simp only [Act.put, List.setIfInBounds_toArray, List.set_cons_zero, List.set_cons_succ]
    refine takeH (i := 2) (v := .pointer (some ⟨g, k + 1, none⟩)) (some 27) rfl rfl (by kernel_rfl) (by kernel_rfl) (by kernel_rfl) (Or.inl ⟨by rfl, ?_⟩) hS0 ?_
    · intro y1 hS1
      go_simp
    simp only [Act.put, List.setIfInBounds_toArray, List.set_cons_zero, List.set_cons_succ]
    refine takeH (i := 3) (v := .slice (some ⟨rb, 0, none⟩) n n) (some 28) rfl rfl (by kernel_rfl) (by kernel_rfl) (by kernel_rfl) (Or.inl ⟨by rfl, ?_⟩) hS0 ?_
    · intro y1 hS1
      have c1 := (hS1.cell (b := g) hg1 hng).trans c1
      go_simp
    simp only [Act.put, List.setIfInBounds_toArray, List.set_cons_zero, List.set_cons_succ]
    refine takeH (i := 4) (v := .int .i64 (a : Int)) (some 29) rfl rfl (by kernel_rfl) (by kernel_rfl) (by kernel_rfl) (Or.inl ⟨by rfl, ?_⟩) hS0 ?_
    · intro y1 hS1
      go_simp
    simp only [Act.put, List.setIfInBounds_toArray, List.set_cons_zero, List.set_cons_succ]
    refine takeH (i := 5) (v := .pointer (some ⟨g, k, none⟩)) (some 30) rfl rfl (by kernel_rfl) (by kernel_rfl) (by kernel_rfl) (Or.inl ⟨by rfl, ?_⟩) hS0 ?_
    · intro y1 hS1
      go_simp
    simp only [Act.put, List.setIfInBounds_toArray, List.set_cons_zero, List.set_cons_succ]
    refine takeH (i := 6) (v := .pointer (some ⟨g, k, none⟩)) (some 31) rfl rfl (by kernel_rfl) (by kernel_rfl) (by kernel_rfl) (Or.inl ⟨by rfl, ?_⟩) hS0 ?_
    · intro y1 hS1
      go_simp
    simp only [Act.put, List.setIfInBounds_toArray, List.set_cons_zero, List.set_cons_succ]
    refine takeH (i := 7) (v := .pointer (some ⟨g, k + 1, none⟩)) (some 32) rfl rfl (by kernel_rfl) (by kernel_rfl) (by kernel_rfl) (Or.inl ⟨by rfl, ?_⟩) hS0 ?_
    · intro y1 hS1
      go_simp
    simp only [Act.put, List.setIfInBounds_toArray, List.set_cons_zero, List.set_cons_succ]
    refine takeH (i := 8) (v := .slice (some ⟨rb, 0, none⟩) n n) (some 33) rfl rfl (by kernel_rfl) (by kernel_rfl) (by kernel_rfl) (Or.inl ⟨by rfl, ?_⟩) hS0 ?_
    · intro y1 hS1
      have c1 := (hS1.cell (b := g) hg1 hng).trans c1
      go_simp
    simp only [Act.put, List.setIfInBounds_toArray, List.set_cons_zero, List.set_cons_succ]
    refine takeH (i := 9) (v := .int .i64 (a : Int)) (some 34) rfl rfl (by kernel_rfl) (by kernel_rfl) (by kernel_rfl) (Or.inl ⟨by rfl, ?_⟩) hS0 ?_
    · intro y1 hS1
      go_simp
    simp only [Act.put, List.setIfInBounds_toArray, List.set_cons_zero, List.set_cons_succ]
    refine takeH (i := 10) (v := .pointer (some ⟨rb, a, none⟩)) (some 35) rfl rfl (by kernel_rfl) (by kernel_rfl) (by kernel_rfl) (Or.inl ⟨by rfl, ?_⟩) hS0 ?_
    · intro y1 hS1
      go_simp
    simp only [Act.put, List.setIfInBounds_toArray, List.set_cons_zero, List.set_cons_succ]
    refine takeH (i := 12) (v := .int .i64 r) (some 37) rfl rfl (by kernel_rfl) (by kernel_rfl) (by kernel_rfl) (Or.inl ⟨by rfl, ?_⟩) hS0 ?_
    · intro y1 hS1
      go_simp
    simp only [Act.put, List.setIfInBounds_toArray, List.set_cons_zero, List.set_cons_succ]
    refine wpAnyH_all (rs := [11, 13]) (by kernel_rfl) (by simp) ?_
    intro i1 hi1
    rcases (show i1 = 11 ∨ i1 = 13 by simpa using hi1) with rfl | rfl
    · refine wpOp_val (w' := W1.drew) (v := .slice pa (R a).length ka) (some 36) rfl rfl (by rfl) (by go_simp) ?_
      refine ⟨hS0, ?_⟩
      simp only [Act.put, List.setIfInBounds_toArray, List.set_cons_zero, List.set_cons_succ]
      refine wpAnyH_all (rs := [13]) (by kernel_rfl) (by simp) ?_
      intro i2 hi2
      obtain rfl : i2 = 13 := by simpa using hi2
      refine wpOp_val (w' := W1.drew.alloc (.cells #[.int .i64 r] 3)) (v := .slice (some ⟨W1.drew.heap.size, 0, none⟩) 1 1) (some 38) rfl rfl (by rfl) (by go_simp) ?_
      refine ⟨hS0.alloc _, ?_⟩
      simp only [Act.put, List.setIfInBounds_toArray, List.set_cons_zero, List.set_cons_succ]
      refine wpAnyH_all (rs := [14]) (by kernel_rfl) (by simp) ?_
      intro i3 hi3
      obtain rfl : i3 = 14 := by simpa using hi3
      refine wpOp_sr (B := B) (some 39) rfl rfl (by rfl) _ _ 64 rfl Tryd.underlying64 (.slice pa (R a).length ka) (R a) rfl (HSA.out.stay ((below_drew1 _).alloc (Nat.le_refl _) _)) (by simp; omega) (by omega) ⟨W1.drew.heap.size, 0, none⟩ 1 r rfl (by rw [Addr.add_zero', cell_of_row _ _ _ _ _ _ (heap_alloc_new _ _)]; rfl) ?_
      intro v4 w4 hsr hgr4 hat4
      obtain ⟨p4, k4, e4⟩ := hsr.form
      subst e4
      have hS4 : Ch (fun z => z = rb ∨ (Value.slice pa (R a).length ka).ownBlock = some z) W1 w4 := (hS0.alloc _).grown hgr4 fun z e => .inl (.inr e)
      refine ⟨hS4, ?_⟩
      simp only [Act.put, List.setIfInBounds_toArray, List.set_cons_zero, List.set_cons_succ]
      have HV4 : Hid (FV 64 w4 rb n RV) := Lib.hid ((((HQ1.out.fv.stay (below_drew1 _)).alloc _).of_heap (hgr4.block rb (by simpa using Nat.lt_succ_of_lt hr1) fun e => hnrb e.symm)))
      have zf4 := HV4.out.frozen a
      have zc4 := HV4.out.cell ha
      have zl4 := HV4.out.lt
      refine takeH (i := 15) (v := .pointer (some ⟨rb, a, none⟩)) (some 40) rfl rfl (by kernel_rfl) (by kernel_rfl) (by kernel_rfl) (Or.inl ⟨by rfl, ?_⟩) hS4 ?_
      · intro y1 hS1
        go_simp
      simp only [Act.put, List.setIfInBounds_toArray, List.set_cons_zero, List.set_cons_succ]
      refine wpAnyH_all (rs := [16]) (by kernel_rfl) (by simp) ?_
      intro i4 hi4
      obtain rfl : i4 = 16 := by simpa using hi4
      refine wpOp_skip (w' := w4.setCell ⟨rb, a, none⟩ (.slice p4 (R a ++ [r]).length k4)) none rfl rfl (by rfl) (by go_simp) ?_
      refine ⟨hS4.set (.inl (.inl rfl)) _ _, ?_⟩
      refine wpAnyH_done (by kernel_rfl) ?_ _
      refine ⟨rfl, ?_⟩
      have hfin0 := HEND.out _ _ _ hS4 HV4.out hsr hat4
      have hfin := hfin0
      simp only [List.length_append, List.length_cons, List.length_nil, Nat.zero_add] at hfin
      go_wp2
      first | exact bodyPost_ret (results_none rfl _ _ _) rfl hfin | exact bodyPost_ret (results_none rfl _ _ _) rfl hfin0
    · refine wpOp_val (w' := W1.drew.alloc (.cells #[.int .i64 r] 3)) (v := .slice (some ⟨W1.drew.heap.size, 0, none⟩) 1 1) (some 38) rfl rfl (by rfl) (by go_simp) ?_
      refine ⟨hS0.alloc _, ?_⟩
      simp only [Act.put, List.setIfInBounds_toArray, List.set_cons_zero, List.set_cons_succ]
      refine wpAnyH_all (rs := [11]) (by kernel_rfl) (by simp) ?_
      intro i2 hi2
      obtain rfl : i2 = 11 := by simpa using hi2
      refine wpOp_val (w' := W1.drew.alloc (.cells #[.int .i64 r] 3)) (v := .slice pa (R a).length ka) (some 36) rfl rfl (by rfl) (by go_simp) ?_
      refine ⟨hS0.alloc _, ?_⟩
      simp only [Act.put, List.setIfInBounds_toArray, List.set_cons_zero, List.set_cons_succ]
      refine wpAnyH_all (rs := [14]) (by kernel_rfl) (by simp) ?_
      intro i3 hi3
      obtain rfl : i3 = 14 := by simpa using hi3
      refine wpOp_sr (B := B) (some 39) rfl rfl (by rfl) _ _ 64 rfl Tryd.underlying64 (.slice pa (R a).length ka) (R a) rfl (HSA.out.stay ((below_drew1 _).alloc (Nat.le_refl _) _)) (by simp; omega) (by omega) ⟨W1.drew.heap.size, 0, none⟩ 1 r rfl (by rw [Addr.add_zero', cell_of_row _ _ _ _ _ _ (heap_alloc_new _ _)]; rfl) ?_
      intro v4 w4 hsr hgr4 hat4
      obtain ⟨p4, k4, e4⟩ := hsr.form
      subst e4
      have hS4 : Ch (fun z => z = rb ∨ (Value.slice pa (R a).length ka).ownBlock = some z) W1 w4 := (hS0.alloc _).grown hgr4 fun z e => .inl (.inr e)
      refine ⟨hS4, ?_⟩
      simp only [Act.put, List.setIfInBounds_toArray, List.set_cons_zero, List.set_cons_succ]
      have HV4 : Hid (FV 64 w4 rb n RV) := Lib.hid ((((HQ1.out.fv.stay (below_drew1 _)).alloc _).of_heap (hgr4.block rb (by simpa using Nat.lt_succ_of_lt hr1) fun e => hnrb e.symm)))
      have zf4 := HV4.out.frozen a
      have zc4 := HV4.out.cell ha
      have zl4 := HV4.out.lt
      refine takeH (i := 15) (v := .pointer (some ⟨rb, a, none⟩)) (some 40) rfl rfl (by kernel_rfl) (by kernel_rfl) (by kernel_rfl) (Or.inl ⟨by rfl, ?_⟩) hS4 ?_
      · intro y1 hS1
        go_simp
      simp only [Act.put, List.setIfInBounds_toArray, List.set_cons_zero, List.set_cons_succ]
      refine wpAnyH_all (rs := [16]) (by kernel_rfl) (by simp) ?_
      intro i4 hi4
      obtain rfl : i4 = 16 := by simpa using hi4
      refine wpOp_skip (w' := w4.setCell ⟨rb, a, none⟩ (.slice p4 (R a ++ [r]).length k4)) none rfl rfl (by rfl) (by go_simp) ?_
      refine ⟨hS4.set (.inl (.inl rfl)) _ _, ?_⟩
      refine wpAnyH_done (by kernel_rfl) ?_ _
      refine ⟨rfl, ?_⟩
      have hfin0 := HEND.out _ _ _ hS4 HV4.out hsr hat4
      have hfin := hfin0
      simp only [List.length_append, List.length_cons, List.length_nil, Nat.zero_add] at hfin
      go_wp2
      first | exact bodyPost_ret (results_none rfl _ _ _) rfl hfin | exact bodyPost_ret (results_none rfl _ _ _) rfl hfin0
  · have hEl : ((R a).length : Int) ≠ 0 := by have := List.length_pos_iff.2 hE; omega
    have he : (((R a).length : Int) == 0) = false := by rw [beq_eq_false_iff_ne]; exact hEl
    have HEl := Lib.hid hE
    go_upto_region 2 with (fail)
    refine name_world ?_
    intro W1 hW1
    have HF1 : Hid (FV 69 W1 g 8 (upd F k (F k))) := Lib.hid (by rw [hW1, upd_same]; exact hF.out)
    have HQ1 : Hid (QM B own W1 k n (F k) rb RV P R) := Lib.hid (by rw [hW1]; exact hQ.out)
    have HCW : Hid (Ch (QS own g k) W W1) := Lib.hid (by rw [hW1]; exact Ch.refl _ _)
    have HOW : Hid (∀ b, b < W.heap.size → own b = own b) := Lib.hid fun _ _ => rfl
    have HPP : Hid (putP P R a = P) := Lib.hid (if_neg HEl.out)
    have hBW : B ≤ W1.heap.size := Nat.le_trans hB HCW.out.size
    clear hW1
    have hFr1 : upd F k (F k) (k + 1) = .slice (some ⟨rb, 0, none⟩) n n := by rw [upd_same]; exact hFr
    have hog1 := hog
    clear c1 ca HEA hE
    have hg1 := HF1.out.lt
    have c1 := HF1.out.cell (i := k + 1) (by omega)
    rw [hFr1] at c1
    have hr1 := HQ1.out.fv.lt
    have ca := HQ1.out.fv.cell ha
    have hsa := HQ1.out.sr a ha
    obtain ⟨pa, ka, ea⟩ := hsa.form
    have hgr : g ≠ rb := fun e => by have h1 := HQ1.out.orb; rw [← e, hog1] at h1; cases h1
    rw [ea] at ca
    have HSA : Hid (SR B W1 (.slice pa (R a).length ka) (R a)) := Lib.hid (ea ▸ hsa)
    have hoa : ∀ z, (Value.slice pa (R a).length ka).ownBlock = some z → (own) z = .q k a := fun z e => HQ1.out.oq a z ha (by rw [ea]; exact e)
    have hng : ¬ (g = rb ∨ (Value.slice pa (R a).length ka).ownBlock = some g) := fun h => by
      rcases h with h | h
      · exact hgr h
      · have h1 := hoa g h; rw [hog1] at h1; cases h1
    have hnrb : (Value.slice pa (R a).length ka).ownBlock ≠ some rb := fun e => by have h1 := hoa rb e; rw [HQ1.out.orb] at h1; cases h1
    have HEND : Hid (∀ (w4 : World) (p4 : Option Addr) (k4 : Nat), Ch (fun z => z = rb ∨ (Value.slice pa (R a).length ka).ownBlock = some z) W1 w4 → FV 64 w4 rb n RV → SR B w4 (Value.slice p4 (R a ++ [r]).length k4) (R a ++ [r]) → ((Value.slice p4 (R a ++ [r]).length k4).ownBlock = (Value.slice pa (R a).length ka).ownBlock ∨ ∃ g, (Value.slice p4 (R a ++ [r]).length k4).ownBlock = some g ∧ (W1.drew.alloc (.cells #[.int .i64 r] 3)).heap.size ≤ g) → PutP B own W g k n rb F RV P R a r (.returned (.tuple #[])) (w4.setCell ⟨rb, a, none⟩ (Value.slice p4 (R a ++ [r]).length k4))) := Lib.hid fun w4 p4 k4 hS4 hV4 hsr hat => by
      rw [← ea] at hS4 hat
      have hat2 : (Value.slice p4 (R a ++ [r]).length k4).ownBlock = (RV a).ownBlock ∨ ∃ g, (Value.slice p4 (R a ++ [r]).length k4).ownBlock = some g ∧ W1.heap.size ≤ g := hat.imp id fun ⟨g, e, h⟩ => ⟨g, e, by simp at h; omega⟩
      have hq := HQ1.out.push (r := r) ha hS4 hV4 hsr hat2
      have hSe : Ch (fun z => z = rb ∨ (RV a).ownBlock = some z) W1 (w4.setCell ⟨rb, a, none⟩ (Value.slice p4 (R a ++ [r]).length k4)) := hS4.set (.inl (.inl rfl)) _ _
      refine ⟨_, (F k), _, _, rfl, fun b hb => ?_, ?_, by rw [HPP.out]; exact hq, HCW.out.trans (Ch.mono hSe fun z hz e => ?_)⟩
      · exact (ownN_old (Nat.lt_of_lt_of_le hb HCW.out.size)).trans (HOW.out b hb)
      · exact HF1.out.ch hSe (by rw [ea]; exact hng)
      · rcases e with e | e
        · exact .inr (.inl (e ▸ hQ.out.orb))
        · exact .inr (.inr (.inr ⟨a, hQ.out.oq a z ha e⟩))
    clear hsa hoa ea
    go_upto_region 2 with (fail)
    refine region_held1 (fun w' => Ch (fun z => z = rb ∨ (Value.slice pa (R a).length ka).ownBlock = some z) W1 w') (by kernel_rfl) ?_
    show wpAnyH _ _ _ _ _ 17 _ _ _
    have hS0 : Ch (fun z => z = rb ∨ (Value.slice pa (R a).length ka).ownBlock = some z) W1 W1.drew := Ch.of (below_drew1 _)
    refine takeH (i := 0) (v := .pointer (some ⟨g, k, none⟩)) (some 25) rfl rfl (by kernel_rfl) (by kernel_rfl) (by kernel_rfl) (Or.inl ⟨by rfl, ?_⟩) hS0 ?_
    · intro y1 hS1
      go_simp
    simp only [Act.put, List.setIfInBounds_toArray, List.set_cons_zero, List.set_cons_succ]
    refine takeH (i := 1) (v := .pointer (some ⟨g, k, none⟩)) (some 26) rfl rfl (by kernel_rfl) (by kernel_rfl) (by kernel_rfl) (Or.inl ⟨by rfl, ?_⟩) hS0 ?_
    · intro y1 hS1
      go_simp
    simp only [Act.put, List.setIfInBounds_toArray, List.set_cons_zero, List.set_cons_succ]
    refine takeH (i := 2) (v := .pointer (some ⟨g, k + 1, none⟩)) (some 27) rfl rfl (by kernel_rfl) (by kernel_rfl) (by kernel_rfl) (Or.inl ⟨by rfl, ?_⟩) hS0 ?_
    · intro y1 hS1
      go_simp
    simp only [Act.put, List.setIfInBounds_toArray, List.set_cons_zero, List.set_cons_succ]
    refine takeH (i := 3) (v := .slice (some ⟨rb, 0, none⟩) n n) (some 28) rfl rfl (by kernel_rfl) (by kernel_rfl) (by kernel_rfl) (Or.inl ⟨by rfl, ?_⟩) hS0 ?_
    · intro y1 hS1
      have c1 := (hS1.cell (b := g) hg1 hng).trans c1
      go_simp
    simp only [Act.put, List.setIfInBounds_toArray, List.set_cons_zero, List.set_cons_succ]
    refine takeH (i := 4) (v := .int .i64 (a : Int)) (some 29) rfl rfl (by kernel_rfl) (by kernel_rfl) (by kernel_rfl) (Or.inl ⟨by rfl, ?_⟩) hS0 ?_
    · intro y1 hS1
      go_simp
    simp only [Act.put, List.setIfInBounds_toArray, List.set_cons_zero, List.set_cons_succ]
    refine takeH (i := 5) (v := .pointer (some ⟨g, k, none⟩)) (some 30) rfl rfl (by kernel_rfl) (by kernel_rfl) (by kernel_rfl) (Or.inl ⟨by rfl, ?_⟩) hS0 ?_
    · intro y1 hS1
      go_simp
    simp only [Act.put, List.setIfInBounds_toArray, List.set_cons_zero, List.set_cons_succ]
    refine takeH (i := 6) (v := .pointer (some ⟨g, k, none⟩)) (some 31) rfl rfl (by kernel_rfl) (by kernel_rfl) (by kernel_rfl) (Or.inl ⟨by rfl, ?_⟩) hS0 ?_
    · intro y1 hS1
      go_simp
    simp only [Act.put, List.setIfInBounds_toArray, List.set_cons_zero, List.set_cons_succ]
    refine takeH (i := 7) (v := .pointer (some ⟨g, k + 1, none⟩)) (some 32) rfl rfl (by kernel_rfl) (by kernel_rfl) (by kernel_rfl) (Or.inl ⟨by rfl, ?_⟩) hS0 ?_
    · intro y1 hS1
      go_simp
    simp only [Act.put, List.setIfInBounds_toArray, List.set_cons_zero, List.set_cons_succ]
    refine takeH (i := 8) (v := .slice (some ⟨rb, 0, none⟩) n n) (some 33) rfl rfl (by kernel_rfl) (by kernel_rfl) (by kernel_rfl) (Or.inl ⟨by rfl, ?_⟩) hS0 ?_
    · intro y1 hS1
      have c1 := (hS1.cell (b := g) hg1 hng).trans c1
      go_simp
    simp only [Act.put, List.setIfInBounds_toArray, List.set_cons_zero, List.set_cons_succ]
    refine takeH (i := 9) (v := .int .i64 (a : Int)) (some 34) rfl rfl (by kernel_rfl) (by kernel_rfl) (by kernel_rfl) (Or.inl ⟨by rfl, ?_⟩) hS0 ?_
    · intro y1 hS1
      go_simp
    simp only [Act.put, List.setIfInBounds_toArray, List.set_cons_zero, List.set_cons_succ]
    refine takeH (i := 10) (v := .pointer (some ⟨rb, a, none⟩)) (some 35) rfl rfl (by kernel_rfl) (by kernel_rfl) (by kernel_rfl) (Or.inl ⟨by rfl, ?_⟩) hS0 ?_
    · intro y1 hS1
      go_simp
    simp only [Act.put, List.setIfInBounds_toArray, List.set_cons_zero, List.set_cons_succ]
    refine takeH (i := 12) (v := .int .i64 r) (some 37) rfl rfl (by kernel_rfl) (by kernel_rfl) (by kernel_rfl) (Or.inl ⟨by rfl, ?_⟩) hS0 ?_
    · intro y1 hS1
      go_simp
    simp only [Act.put, List.setIfInBounds_toArray, List.set_cons_zero, List.set_cons_succ]
    refine wpAnyH_all (rs := [11, 13]) (by kernel_rfl) (by simp) ?_
    intro i1 hi1
    rcases (show i1 = 11 ∨ i1 = 13 by simpa using hi1) with rfl | rfl
    · refine wpOp_val (w' := W1.drew) (v := .slice pa (R a).length ka) (some 36) rfl rfl (by rfl) (by go_simp) ?_
      refine ⟨hS0, ?_⟩
      simp only [Act.put, List.setIfInBounds_toArray, List.set_cons_zero, List.set_cons_succ]
      refine wpAnyH_all (rs := [13]) (by kernel_rfl) (by simp) ?_
      intro i2 hi2
      obtain rfl : i2 = 13 := by simpa using hi2
      refine wpOp_val (w' := W1.drew.alloc (.cells #[.int .i64 r] 3)) (v := .slice (some ⟨W1.drew.heap.size, 0, none⟩) 1 1) (some 38) rfl rfl (by rfl) (by go_simp) ?_
      refine ⟨hS0.alloc _, ?_⟩
      simp only [Act.put, List.setIfInBounds_toArray, List.set_cons_zero, List.set_cons_succ]
      refine wpAnyH_all (rs := [14]) (by kernel_rfl) (by simp) ?_
      intro i3 hi3
      obtain rfl : i3 = 14 := by simpa using hi3
      refine wpOp_sr (B := B) (some 39) rfl rfl (by rfl) _ _ 64 rfl Tryd.underlying64 (.slice pa (R a).length ka) (R a) rfl (HSA.out.stay ((below_drew1 _).alloc (Nat.le_refl _) _)) (by simp; omega) (by omega) ⟨W1.drew.heap.size, 0, none⟩ 1 r rfl (by rw [Addr.add_zero', cell_of_row _ _ _ _ _ _ (heap_alloc_new _ _)]; rfl) ?_
      intro v4 w4 hsr hgr4 hat4
      obtain ⟨p4, k4, e4⟩ := hsr.form
      subst e4
      have hS4 : Ch (fun z => z = rb ∨ (Value.slice pa (R a).length ka).ownBlock = some z) W1 w4 := (hS0.alloc _).grown hgr4 fun z e => .inl (.inr e)
      refine ⟨hS4, ?_⟩
      simp only [Act.put, List.setIfInBounds_toArray, List.set_cons_zero, List.set_cons_succ]
      have HV4 : Hid (FV 64 w4 rb n RV) := Lib.hid ((((HQ1.out.fv.stay (below_drew1 _)).alloc _).of_heap (hgr4.block rb (by simpa using Nat.lt_succ_of_lt hr1) fun e => hnrb e.symm)))
      have zf4 := HV4.out.frozen a
      have zc4 := HV4.out.cell ha
      have zl4 := HV4.out.lt
      refine takeH (i := 15) (v := .pointer (some ⟨rb, a, none⟩)) (some 40) rfl rfl (by kernel_rfl) (by kernel_rfl) (by kernel_rfl) (Or.inl ⟨by rfl, ?_⟩) hS4 ?_
      · intro y1 hS1
        go_simp
      simp only [Act.put, List.setIfInBounds_toArray, List.set_cons_zero, List.set_cons_succ]
      refine wpAnyH_all (rs := [16]) (by kernel_rfl) (by simp) ?_
      intro i4 hi4
      obtain rfl : i4 = 16 := by simpa using hi4
      refine wpOp_skip (w' := w4.setCell ⟨rb, a, none⟩ (.slice p4 (R a ++ [r]).length k4)) none rfl rfl (by rfl) (by go_simp) ?_
      refine ⟨hS4.set (.inl (.inl rfl)) _ _, ?_⟩
      refine wpAnyH_done (by kernel_rfl) ?_ _
      refine ⟨rfl, ?_⟩
      have hfin0 := HEND.out _ _ _ hS4 HV4.out hsr hat4
      have hfin := hfin0
      simp only [List.length_append, List.length_cons, List.length_nil, Nat.zero_add] at hfin
      go_wp2
      first | exact bodyPost_ret (results_none rfl _ _ _) rfl hfin | exact bodyPost_ret (results_none rfl _ _ _) rfl hfin0
    · refine wpOp_val (w' := W1.drew.alloc (.cells #[.int .i64 r] 3)) (v := .slice (some ⟨W1.drew.heap.size, 0, none⟩) 1 1) (some 38) rfl rfl (by rfl) (by go_simp) ?_
      refine ⟨hS0.alloc _, ?_⟩
      simp only [Act.put, List.setIfInBounds_toArray, List.set_cons_zero, List.set_cons_succ]
      refine wpAnyH_all (rs := [11]) (by kernel_rfl) (by simp) ?_
      intro i2 hi2
      obtain rfl : i2 = 11 := by simpa using hi2
      refine wpOp_val (w' := W1.drew.alloc (.cells #[.int .i64 r] 3)) (v := .slice pa (R a).length ka) (some 36) rfl rfl (by rfl) (by go_simp) ?_
      refine ⟨hS0.alloc _, ?_⟩
      simp only [Act.put, List.setIfInBounds_toArray, List.set_cons_zero, List.set_cons_succ]
      refine wpAnyH_all (rs := [14]) (by kernel_rfl) (by simp) ?_
      intro i3 hi3
      obtain rfl : i3 = 14 := by simpa using hi3
      refine wpOp_sr (B := B) (some 39) rfl rfl (by rfl) _ _ 64 rfl Tryd.underlying64 (.slice pa (R a).length ka) (R a) rfl (HSA.out.stay ((below_drew1 _).alloc (Nat.le_refl _) _)) (by simp; omega) (by omega) ⟨W1.drew.heap.size, 0, none⟩ 1 r rfl (by rw [Addr.add_zero', cell_of_row _ _ _ _ _ _ (heap_alloc_new _ _)]; rfl) ?_
      intro v4 w4 hsr hgr4 hat4
      obtain ⟨p4, k4, e4⟩ := hsr.form
      subst e4
      have hS4 : Ch (fun z => z = rb ∨ (Value.slice pa (R a).length ka).ownBlock = some z) W1 w4 := (hS0.alloc _).grown hgr4 fun z e => .inl (.inr e)
      refine ⟨hS4, ?_⟩
      simp only [Act.put, List.setIfInBounds_toArray, List.set_cons_zero, List.set_cons_succ]
      have HV4 : Hid (FV 64 w4 rb n RV) := Lib.hid ((((HQ1.out.fv.stay (below_drew1 _)).alloc _).of_heap (hgr4.block rb (by simpa using Nat.lt_succ_of_lt hr1) fun e => hnrb e.symm)))
      have zf4 := HV4.out.frozen a
      have zc4 := HV4.out.cell ha
      have zl4 := HV4.out.lt
      refine takeH (i := 15) (v := .pointer (some ⟨rb, a, none⟩)) (some 40) rfl rfl (by kernel_rfl) (by kernel_rfl) (by kernel_rfl) (Or.inl ⟨by rfl, ?_⟩) hS4 ?_
      · intro y1 hS1
        go_simp
      simp only [Act.put, List.setIfInBounds_toArray, List.set_cons_zero, List.set_cons_succ]
      refine wpAnyH_all (rs := [16]) (by kernel_rfl) (by simp) ?_
      intro i4 hi4
      obtain rfl : i4 = 16 := by simpa using hi4
      refine wpOp_skip (w' := w4.setCell ⟨rb, a, none⟩ (.slice p4 (R a ++ [r]).length k4)) none rfl rfl (by rfl) (by go_simp) ?_
      refine ⟨hS4.set (.inl (.inl rfl)) _ _, ?_⟩
      refine wpAnyH_done (by kernel_rfl) ?_ _
      refine ⟨rfl, ?_⟩
      have hfin0 := HEND.out _ _ _ hS4 HV4.out hsr hat4
      have hfin := hfin0
      simp only [List.length_append, List.length_cons, List.length_nil, Nat.zero_add] at hfin
      go_wp2
      first | exact bodyPost_ret (results_none rfl _ _ _) rfl hfin | exact bodyPost_ret (results_none rfl _ _ _) rfl hfin0
end Go.Proofs.YtgdhgipofaaogaaDoor
namespace Go.Proofs.YtgdhgipofaaogaaDoor
open Go Go.RowKit Gm

/-- What next hands back. -/
def NextP (B : Nat) (own : Nat → Ob) (W : World) (g k n rb : Nat) (F RV : Nat → Value) (a : Nat) (P : List Nat) (R : Nat → List Int) (e : Ending) (w' : World) : Prop :=
  ∃ (pa : Option Addr) (ka : Nat) (vP : Value) (own' : Nat → Ob), e = .returned (.tuple #[.int .i64 (a : Int), .slice pa (R a).length ka]) ∧ (∀ b, own' b = own b ∨ (own b = .q k a ∧ own' b = .no)) ∧ (∀ z, (Value.slice pa (R a).length ka).ownBlock = some z → own' z = .no) ∧ SR B w' (.slice pa (R a).length ka) (R a) ∧
    FV 69 w' g 8 (upd F k vP) ∧ QM B own' w' k n vP rb (upd RV a (.slice none 0 0)) P (fun i => if i = a then [] else R i) ∧ Ch (fun z => z = g ∨ z = rb) W w'
set_option maxRecDepth 100000 in
set_option maxHeartbeats 4000000 in
theorem qnext_c {B : Nat} {own : Nat → Ob} {W : World} {g k n rb a : Nat} {F RV : Nat → Value} {P : List Nat} {R : Nat → List Int} (hF : Hid (FV 69 W g 8 F)) (hFr : F (k + 1) = .slice (some ⟨rb, 0, none⟩) n n) (hk : k + 1 < 8) (hQ : Hid (QM B own W k n (F k) rb RV (a :: P) R)) (hog : own g = .f) (ha : a < n) (hn : n ≤ 5000) : Calls Tryd.prog 40 #[.pointer (some ⟨g, k, none⟩)] W (NextP B own W g k n rb F RV a P R) := by
  have hg0 := hF.out.lt
  have c1 := hF.out.cell (i := k + 1) (by omega)
  rw [hFr] at c1
  have c0 := hF.out.cell (i := k) (by omega)
  have z0 := hF.out.frozen k
  have hr0 := hQ.out.fv.lt
  have ca := hQ.out.fv.cell ha
  have za := hQ.out.fv.frozen a
  obtain ⟨pa, ka, ea⟩ := (hQ.out.sr a ha).form
  rw [ea] at ca
  have hgr : g ≠ rb := fun e => by have h1 := hQ.out.orb; rw [← e, hog] at h1; cases h1
  have hrg : rb ≠ g := fun e => hgr e.symm
  obtain ⟨pp, kp, ep⟩ := hQ.out.sp.form
  have hsp := hQ.out.sp
  rw [ep] at hsp c0
  rw [List.map_cons] at hsp c0
  obtain ⟨gp, o, e1, hlk, hst, hc, hgl⟩ := hsp.tail
  subst e1
  have hgpg : gp ≠ g := fun e => by have h1 := hQ.out.op gp (by rw [ep]; rfl); rw [e, hog] at h1; cases h1
  simp only [List.length_cons, List.length_map] at c0 hlk hst
  have HST := Lib.hid hst
  have HST1 : Hid (kp = 1 → SR B W (.slice (some ⟨gp, o, none⟩) P.length 0) (P.map Int.ofNat)) := Lib.hid fun e => by
    have hP : P = [] := List.eq_nil_of_length_eq_zero (by omega)
    subst hP
    rcases hsp with ⟨h, -⟩ | ⟨g2, o2, cap2, cur2, e2, hB2, hg2, hc2, hl2, -⟩
    · cases h
    · cases e2
      exact .inr ⟨gp, o, 0, cur2, rfl, hB2, hg2, by omega, Nat.le_refl _, fun i u hu => by simp [iw] at hu⟩
  have hend : ∀ o' k', SR B W (.slice (some ⟨gp, o', none⟩) P.length k') (P.map Int.ofNat) → NextP B own W g k n rb F RV a P R (.returned (.tuple #[.int .i64 (a : Int), .slice pa (R a).length ka])) ((W.setCell ⟨g, k, none⟩ (.slice (some ⟨gp, o', none⟩) P.length k')).setCell ⟨rb, a, none⟩ (.slice none 0 0)) := fun o' k' hst' => by
    have hC : Ch (fun z => z = g ∨ z = rb) W ((W.setCell ⟨g, k, none⟩ (.slice (some ⟨gp, o', none⟩) P.length k')).setCell ⟨rb, a, none⟩ (.slice none 0 0)) := ((Ch.refl (fun z => z = g ∨ z = rb) _).set (.inl (.inl rfl)) _ _).set (.inl (.inr rfl)) _ _
    have hne : ∀ b, own b ≠ .f → own b ≠ .qr k → ¬ (b = g ∨ b = rb) := fun b h1 h2 e => by
      rcases e with e | e
      · exact h1 (e ▸ hog)
      · exact h2 (e ▸ hQ.out.orb)
    have hoa : ∀ z, (Value.slice pa (R a).length ka).ownBlock = some z → own z = .q k a := fun z e => hQ.out.oq a z ha (by rw [ea]; exact e)
    have hown : ∀ b, (if (Value.slice pa (R a).length ka).ownBlock = some b then Ob.no else own b) = own b ∨ (own b = .q k a ∧ (if (Value.slice pa (R a).length ka).ownBlock = some b then Ob.no else own b) = .no) := fun b => by
      by_cases e : (Value.slice pa (R a).length ka).ownBlock = some b
      · exact .inr ⟨hoa b e, if_pos e⟩
      · exact .inl (if_neg e)
    have hkeep : ∀ b t, own b = t → t ≠ .q k a → (if (Value.slice pa (R a).length ka).ownBlock = some b then Ob.no else own b) = t := fun b t h1 h2 => by
      rw [if_neg fun e => h2 (by rw [← h1, hoa b e])]
      exact h1
    refine ⟨pa, ka, .slice (some ⟨gp, o', none⟩) P.length k', fun b => if (Value.slice pa (R a).length ka).ownBlock = some b then .no else own b, rfl, hown, fun z e => if_pos e, ?_, ?_, ⟨?_, ?_, ?_, fun z e => ?_, fun i hi => ?_, fun i z hi e => ?_⟩, hC⟩
    · exact (ea ▸ hQ.out.sr a ha : SR B W (.slice pa (R a).length ka) (R a)).ch hC fun z e => hne z (by rw [hoa z e]; simp) (by rw [hoa z e]; simp)
    · exact (hF.out.set k _).setO hgr _ _
    · exact hkeep rb _ hQ.out.orb (by simp)
    · exact ((hQ.out.fv.setO hrg _ _).set a _)
    · have h2 : SR B W (.slice (some ⟨gp, o', none⟩) (P.map Int.ofNat).length k') (P.map Int.ofNat) := by rw [List.length_map]; exact hst'
      have h3 := h2.ch hC fun z e => by
        have e2 : gp = z := by simpa [Value.ownBlock] using e
        subst e2
        have h1 := hQ.out.op gp (by rw [ep]; rfl)
        exact hne gp (by rw [h1]; simp) (by rw [h1]; simp)
      rw [List.length_map] at h3
      exact h3
    · have e2 : gp = z := by simpa [Value.ownBlock] using e
      subst e2
      exact hkeep gp _ (hQ.out.op gp (by rw [ep]; rfl)) (by simp)
    · by_cases e : i = a
      · subst e
        rw [upd_at, if_pos rfl]
        exact SR.nil _ _
      · rw [upd_of e, if_neg e]
        exact (hQ.out.sr i hi).ch hC fun z ez => hne z (by rw [hQ.out.oq i z hi ez]; simp) (by rw [hQ.out.oq i z hi ez]; simp)
    · by_cases e1 : i = a
      · subst e1
        rw [upd_at] at e
        cases e
      · rw [upd_of e1] at e
        exact hkeep z _ (hQ.out.oq i z hi e) (by simpa using e1)
  have HEND := Lib.hid hend
  clear hend ep ea hst hsp
  go_enter Tryd.func40, Tryd.ntmps40
  by_cases hk1 : kp = 1
  · have HST2 := Lib.hid (HST1.out hk1)
    subst hk1
    have hP0 : P.length = 0 := by omega
    have HP0 := Lib.hid hP0
    go_wp2
    go_ret2
    have hh := HEND.out o 0 HST2.out
    rw [HP0.out] at hh
    exact hh
  · have hk2 : ¬ kp - 1 = 0 := by omega
    go_wp2
    go_ret2
    exact HEND.out (o + 1) (kp - 1) HST.out
set_option maxHeartbeats 1000000 in
theorem qempty_c {W : World} {g k : Nat} {F : Nat → Value} {p : Option Addr} {m cap : Nat} (hF : Hid (FV 69 W g 8 F)) (hF0 : F k = .slice p m cap) (hk : k + 1 < 8) : Calls Tryd.prog 39 #[.pointer (some ⟨g, k, none⟩)] W fun e w' => e = .returned (.bool (decide (m = 0))) ∧ w' = W := by
  have c0 := hF.out.cell (i := k) (by omega)
  rw [hF0] at c0
  go_enter Tryd.func39, Tryd.ntmps39
  go_wp2
  go_ret
  refine ⟨?_, rfl⟩
  congr 2
  by_cases h : m = 0
  · subst h; rfl
  · simp [h]
end Go.Proofs.YtgdhgipofaaogaaDoor
namespace Go.Proofs.YtgdhgipofaaogaaDoor
open Go Go.RowKit Go.ChangeMaps Go.MapKept Go.WideElems Go.Maps
theorem In6.wf {n : Int} (h : In6 n) : (Lit.int .i64 n).wf = true := by
  unfold In6 at h
  simp [Lit.wf, IntKind.min, IntKind.max, IntKind.signed, IntKind.bits] <;> omega
/-- A thing is read as what it is. -/
def Rdv (v : Value) : Option (DataW Value × List MemPlace) := some (.held v, [])
abbrev KF : Type := Int → Option Value
def KF.upd (f : KF) (s : Int) (v : Value) : KF := fun t => if t = s then some v else f t
def KF.del (f : KF) (s : Int) : KF := fun t => if t = s then none else f t
/-- Block b is a map that knows f, of at most n numbers. -/
def KM (K : TypeId) (W : World) (b n : Nat) (f : KF) : Prop := ∃ D : DataW Value, W.ownsMap Tryd.prog K Rdv b n D ∧ ∀ (s : Int) (z : DataW Value), D.atKey (.int .i64 s) z = match f s with | some v => .held v | none => z
section
variable {W X : World} {b n : Nat} {f : KF} {K : TypeId}
theorem KM.made (K : TypeId) (W : World) : KM K (W.alloc (.map #[] 0)) W.heap.size 0 (fun _ => none) := ⟨.map [], World.ownsMap_made W _ _ Rdv, fun _ _ => rfl⟩
theorem KM.lt (h : KM K W b n f) : b < W.heap.size := by
  obtain ⟨D, h1, _⟩ := h
  exact h1.lt
theorem KM.same (h : KM K W b n f) (e : X.heap[b]? = W.heap[b]?) : KM K X b n f := by
  obtain ⟨D, ⟨es, clock, hb, r⟩, h2⟩ := h
  exact ⟨D, ⟨es, clock, e.trans hb, r⟩, h2⟩
theorem KM.mono (h : KM K W b n f) {m : Nat} (hm : n ≤ m) : KM K W b m f := by
  obtain ⟨D, h1, h2⟩ := h
  exact ⟨D, h1.mono hm, h2⟩
theorem KM.nocells (h : KM K W b n f) {m : Nat} {cs : Array Value} {T : TypeId} {fr : Nat × Nat} (hm : W.heap[m]? = some (.cells cs T fr)) : b ≠ m := by
  rintro rfl
  obtain ⟨D, ⟨es, clock, hb, _⟩, _⟩ := h
  rw [hm] at hb
  cases hb
theorem KM.look_ok (h : KM K W b n f) (hk : Keyed Tryd.prog K) {t e : TypeId} (ht : Tryd.prog.underlying t = some (.map K e)) {zv : Value} (hz : (zeroValue e).run Tryd.prog W = .ok zv W) {s : Int} (hs : keyOf Tryd.prog K (.int .i64 s) = some (.int .i64 s)) (c : Bool) :
    (Instr.lookup t (.map (some b)) (.int .i64 s) c).run Tryd.prog W = .ok (if c then .tuple #[(f s).getD zv, .bool (f s).isSome] else (f s).getD zv) W := by
  obtain ⟨D, ⟨es, clock, hb, F, _, rfl⟩, h2⟩ := h
  rcases Maps.fit_look c hk ht hz hb F hs with ⟨hrun, _, hat⟩ | ⟨e0, y, _, _, hrun, hRv, hat, _⟩
  · have e1 : f s = none := by
      have h3 := h2 s (.held (.int .i64 0))
      have h4 := h2 s (.held (.int .i64 1))
      rw [hat] at h3 h4
      cases hf : f s with
      | none => rfl
      | some u =>
        rw [hf] at h3 h4
        simp only at h3 h4
        rw [← h4] at h3
        simp at h3
    rw [hrun, e1]
    rfl
  · have h3 := h2 s (.held (.int .i64 0))
    have h4 := h2 s (.held (.int .i64 1))
    rw [hat] at h3 h4
    have hy : y = (.held e0.val, []) := by
      simpa [Rdv] using hRv.symm
    subst hy
    simp only at h3 h4
    cases hf : f s with
    | none =>
      rw [hf] at h3 h4
      simp only at h3 h4
      rw [h3] at h4
      simp at h4
    | some u =>
      rw [hf] at h3
      simp only [DataW.held.injEq] at h3
      rw [hrun, h3]
      rfl
theorem KM.put_ {D : DataW Value} {s : Int} {v : Value} (hm : IsMap D) (h2 : ∀ (t : Int) (z : DataW Value), D.atKey (.int .i64 t) z = match f t with | some v => .held v | none => z) (t : Int) (z : DataW Value) :
    (D.put (.int .i64 s) (.held v)).atKey (.int .i64 t) z = match f.upd s v t with | some v => .held v | none => z := by
  by_cases e : t = s
  · subst e
    rw [atKey_put_same hm (show WideAt.IsKeyLit (.int .i64 t) from trivial)]
    simp [KF.upd]
  · rw [atKey_put_other (by simpa using e), h2]
    simp [KF.upd, e]
theorem KM.del_ {D : DataW Value} {s : Int} (h2 : ∀ (t : Int) (z : DataW Value), D.atKey (.int .i64 t) z = match f t with | some v => .held v | none => z) (t : Int) (z : DataW Value) :
    (D.del (.int .i64 s)).atKey (.int .i64 t) z = match f.del s t with | some v => .held v | none => z := by
  by_cases e : t = s
  · subst e
    rw [atKey_del_same]
    simp [KF.del]
  · rw [atKey_del_other (by simpa using e), h2]
    simp [KF.del, e]
theorem KM.run_put (h : KM K W b n f) (hk : Keyed Tryd.prog K) {t e : TypeId} (ht : Tryd.prog.underlying t = some (.map K e)) (hn : n < maxLen) {s : Int} (hs : keyOf Tryd.prog K (.int .i64 s) = some (.int .i64 s)) (val : Value) :
    ∃ w', (Instr.mapUpdate t (.map (some b)) (.int .i64 s) val).run Tryd.prog W = .ok () w' ∧ KM K w' b (n + 1) (f.upd s val) ∧ W.grownBy w' (some b) := by
  obtain ⟨D, h1, h2⟩ := h
  obtain ⟨w', hrun, r1, r2⟩ := h1.update hk ht hn hs (val := val) rfl
  exact ⟨w', hrun, ⟨_, r1, KM.put_ h1.isMap h2⟩, r2⟩
theorem KM.run_del (h : KM K W b n f) (hk : Keyed Tryd.prog K) {t e : TypeId} (ht : Tryd.prog.underlying t = some (.map K e)) {s : Int} (hs : keyOf Tryd.prog K (.int .i64 s) = some (.int .i64 s)) (ty : TypeId) :
    ∃ w', (Builtin.delete_ #[t, K] ty #[.map (some b), .int .i64 s]).run Tryd.prog W = .ok (.tuple #[]) w' ∧ KM K w' b n (f.del s) ∧ W.grownBy w' (some b) := by
  obtain ⟨D, h1, h2⟩ := h
  obtain ⟨w', hrun, r1, r2⟩ := h1.drop hk ht hs ty
  exact ⟨w', hrun, ⟨_, r1, KM.del_ h2⟩, r2.grown⟩
/-- An entry is put: as an operation of a walk. -/
theorem wpList_putK {ops : Array Oper} {rest : List Oper} {o : Oper} {a : Act} {Q : Exit → Act → World → Prop} {w : World} {t e : TypeId}
    (hg : o.guard = none) (m x v : Operand) (hop : o.op = Op.mapUpdate t m x v) (hk : Keyed Tryd.prog K) (ht : Tryd.prog.underlying t = some (.map K e)) (b n : Nat) (f : KF) (hm : a.eval m = .map (some b)) (h : KM K w b n f) (hn : n < maxLen)
    (s : Int) (val : Value) (hx : a.eval x = .int .i64 s) (hv : a.eval v = val) (hs : keyOf Tryd.prog K (.int .i64 s) = some (.int .i64 s))
    (hK : ∀ w', KM K w' b (n + 1) (f.upd s val) → w.grownBy w' (some b) → wpList Tryd.prog ops Q rest (a.put o.dst undef) w') : wpList Tryd.prog ops Q (o :: rest) a w := by
  obtain ⟨D, h1, h2⟩ := h
  exact wpList_mapUpdate_own w hg m x v _ hop K e hk ht Rdv b n D hm h1 hn (.int .i64 s) val _ hx hv hs _ _ rfl fun w' g1 g2 => hK w' ⟨_, g1, KM.put_ h1.isMap h2⟩ g2
/-- An entry is struck. -/
theorem wpList_strikeK {ops : Array Oper} {rest : List Oper} {o : Oper} {a : Act} {Q : Exit → Act → World → Prop} {w : World} {t e : TypeId}
    (hg : o.guard = none) (m x : Operand) (hop : o.op = Op.call { callee := Callee.builtin Builtin.delete, args := #[m, x], argTypes := #[t, K] }) (hk : Keyed Tryd.prog K) (ht : Tryd.prog.underlying t = some (.map K e)) (b n : Nat) (f : KF) (hm : a.eval m = .map (some b)) (h : KM K w b n f)
    (s : Int) (hx : a.eval x = .int .i64 s) (hs : keyOf Tryd.prog K (.int .i64 s) = some (.int .i64 s))
    (hK : ∀ w', KM K w' b n (f.del s) → w.grownBy w' (some b) → wpList Tryd.prog ops Q rest (a.put o.dst (.tuple #[])) w') : wpList Tryd.prog ops Q (o :: rest) a w := by
  obtain ⟨D, h1, h2⟩ := h
  exact wpList_delete_own w hg m x _ _ hop e hk ht Rdv b n D hm h1 (.int .i64 s) _ hx hs fun w' g1 g2 => hK w' ⟨_, g1, KM.del_ h2⟩ g2.grown
end
theorem keyedI : Keyed Tryd.prog 3 := int_keyed Tryd.underlying3
theorem keyI {n : Int} (h : In6 n) : keyOf Tryd.prog 3 (.int .i64 n) = some (.int .i64 n) := keyOf_int_mk Tryd.underlying3 (In6.wf h)
theorem at_none {D : DataW Value} {s : Int} {f : KF} (h : ∀ (s : Int) (z : DataW Value), D.atKey (.int .i64 s) z = match f s with | some v => .held v | none => z) (hn : ∀ z, D.atKey (.int .i64 s) z = z) : f s = none := by
  have h3 := h s (.held (.int .i64 0))
  have h4 := h s (.held (.int .i64 1))
  rw [hn] at h3 h4
  cases hf : f s with
  | none => rfl
  | some u =>
    rw [hf] at h3 h4
    simp only at h3 h4
    rw [← h4] at h3
    simp at h3
theorem at_some {D d : DataW Value} {s : Int} {f : KF} (h : ∀ (s : Int) (z : DataW Value), D.atKey (.int .i64 s) z = match f s with | some v => .held v | none => z) (hn : ∀ z, D.atKey (.int .i64 s) z = d) : ∃ v, f s = some v ∧ d = .held v := by
  have h3 := h s (.held (.int .i64 0))
  have h4 := h s (.held (.int .i64 1))
  rw [hn] at h3 h4
  cases hf : f s with
  | none =>
    rw [hf] at h3 h4
    simp only at h3 h4
    rw [h3] at h4
    simp at h4
  | some u =>
    rw [hf] at h3
    exact ⟨u, rfl, h3⟩
/-- Each entry of a map is known. -/
theorem KM.entry {W : World} {b n : Nat} {f : KF} {es : Array MapEntry} {clock : Nat} (F : Fit Tryd.prog 3 Rdv es clock)
    (h2 : ∀ (s : Int) (z : DataW Value), (DataW.map ((es.toList.map (rg Tryd.prog 3 Rdv)).foldr DataW.insert [])).atKey (.int .i64 s) z = match f s with | some v => .held v | none => z) {x : MapEntry} (hx : x ∈ es.toList) :
    ∃ s, x.key = .int .i64 s ∧ (rg Tryd.prog 3 Rdv x).1 = .int .i64 s ∧ f s = some x.val := by
  obtain ⟨y, hy⟩ := F.reads x hx
  obtain ⟨s, h3, h4, _⟩ := Maps.keyOf_int_inv Tryd.underlying3 (rd_key hy)
  obtain ⟨z, hz, hzd⟩ := rd_val hy
  have hrg := Go.WideElems.rg_of (P := Tryd.prog) (k := 3) (R := Rdv) (x := x) (y := y) hy
  have he : (rg Tryd.prog 3 Rdv x).1 = .int .i64 s := by
    rw [hrg]
    exact h4
  have hz1 : z.1 = .held x.val := by
    have : some ((.held x.val : DataW Value), ([] : List MemPlace)) = some z := hz
    cases this
    rfl
  obtain ⟨v, hv, hd⟩ := at_some (s := s) h2 (d := .held x.val) fun zd => by
    have h5 := Go.WideShapes.atKey_sorted (es.toList.map (rg Tryd.prog 3 Rdv)) (Go.Maps.fit_rising (P := Tryd.prog) keyedI F) (.int .i64 s) trivial
    exact (h5.2 (rg Tryd.prog 3 Rdv x) (List.mem_map.2 ⟨x, hx, rfl⟩) he zd).trans ((congrArg Prod.snd hrg).trans (hzd.trans hz1))
  cases hd
  exact ⟨s, h3, he, hv⟩
/-- One key alone: one entry at most. -/
theorem KM.tight {W : World} {b n : Nat} {f : KF} (h : KM 3 W b n f) {k : Int} (hf : ∀ s, s ≠ k → f s = none) : KM 3 W b 1 f := by
  obtain ⟨D, ⟨es, clock, hb, F, hn, rfl⟩, h2⟩ := h
  refine ⟨_, ⟨es, clock, hb, F, ?_, rfl⟩, h2⟩
  have key : ∀ x ∈ es.toList, x.key = .int .i64 k := fun x hx => by
    obtain ⟨s, h3, -, h5⟩ := KM.entry (W := W) (b := b) (n := n) F h2 hx
    by_cases e : s = k
    · rw [h3, e]
    · rw [hf s e] at h5; cases h5
  have hp := ((stamped_iff es clock).1 F.stamped).2.2
  rw [← Array.length_toList]
  cases hl : es.toList with
  | nil => simp
  | cons x r =>
    cases r with
    | nil => simp
    | cons y r =>
      rw [hl] at hp key
      exact absurd ((key x (by simp)).trans (key y (by simp)).symm) ((List.pairwise_cons.1 hp).1 y (by simp))
/-- 'for k, v := range m' under way: who is still to come. -/
def KR (W : World) (b r n : Nat) (f : KF) (left : Int → Bool) (cnt : Nat) : Prop :=
  ∃ (D : DataW Value) (L : Lit → Bool), W.ranges Tryd.prog 3 Rdv b r n D L cnt ∧ (∀ (s : Int) (z : DataW Value), D.atKey (.int .i64 s) z = match f s with | some v => .held v | none => z) ∧ ∀ s, L (.int .i64 s) = left s
section
variable {W X : World} {b r n cnt : Nat} {f : KF} {left : Int → Bool}
theorem KR.km (h : KR W b r n f left cnt) : KM 3 W b n f := by
  obtain ⟨D, L, h1, h2, _⟩ := h
  exact ⟨D, h1.owns, h2⟩
theorem KR.left_eq (h : KR W b r n f left cnt) : W.rangeLeft b r = cnt := by
  obtain ⟨D, L, h1, _⟩ := h
  exact h1.left_eq
theorem KR.ne (h : KR W b r n f left cnt) : r ≠ b := by
  obtain ⟨D, L, h1, _⟩ := h
  exact h1.ne
theorem KR.lt (h : KR W b r n f left cnt) : r < W.heap.size := by
  obtain ⟨D, L, h1, _⟩ := h
  exact h1.lt
theorem KR.ch {S : Nat → Prop} (h : KR W b r n f left cnt) (hc : Ch S W X) (hb : ¬ S b) (hr : ¬ S r) : KR X b r n f left cnt := by
  have hbl := h.km.lt
  have hrl := h.lt
  obtain ⟨D, L, ⟨es, clock, since, seen, c0, h0, F, hs, hD, h1, rest⟩, h2⟩ := h
  exact ⟨D, L, ⟨es, clock, since, seen, c0, (hc.block b hbl hb).trans h0, F, hs, hD, (hc.block r hrl hr).trans h1, rest⟩, h2⟩
end
theorem wpList_rangeK {ops : Array Oper} {rest : List Oper} {o : Oper} {a : Act} {Q : Exit → Act → World → Prop} {w : World} {t e : TypeId}
    (hg : o.guard = none) (m : Operand) (hop : o.op = Op.range t m) (ht : Tryd.prog.underlying t = some (.map 3 e)) (b n : Nat) (f : KF) (hm : a.eval m = .map (some b)) (h : KM 3 w b n f)
    (hK : ∀ w' cnt, KR w' b w.heap.size n f (fun s => (f s).isSome) cnt → w.grownBy w' none → w'.heap.size = w.heap.size + 1 → wpList Tryd.prog ops Q rest (a.put o.dst (.pointer (some ⟨w.heap.size, 0, none⟩))) w') : wpList Tryd.prog ops Q (o :: rest) a w := by
  obtain ⟨D, h1, h2⟩ := h
  refine wpList_range_own w hg m t hop 3 e keyedI ht Rdv b n D hm h1 fun w' g1 g2 g3 => hK w' _ ⟨D, _, g1, h2, fun s => ?_⟩ g2 g3
  cases hh : Maps.has D (.int .i64 s) with
  | false => simp only [at_none h2 (fun z => atKey_of_not_has hh z)]; rfl
  | true =>
    show true = (f s).isSome
    cases hf : f s with
    | some v => rfl
    | none =>
      obtain ⟨es, rfl, hp, hl⟩ := h1.entries keyedI
      rw [has_eq] at hh
      obtain ⟨p, hp1, hp2⟩ := List.any_eq_true.1 hh
      have hpk := WideAt.sameKey_eq hp2
      have hat : ∀ z, (DataW.map es).atKey (.int .i64 s) z = p.2 := fun z => WideAt.atKey_mem z trivial hp (by rw [← hpk]; exact hp1)
      obtain ⟨v, hv, _⟩ := at_some h2 hat
      rw [hf] at hv
      cases hv
theorem wpList_nextK {ops : Array Oper} {rest : List Oper} {o : Oper} {a : Act} {Q : Exit → Act → World → Prop} {w : World} (hg : o.guard = none) (it : Operand) (hop : o.op = Op.next it false) (b r n : Nat) (f : KF) (left : Int → Bool) (cnt : Nat)
    (hit : a.eval it = .pointer (some ⟨r, 0, none⟩)) (h : KR w b r n f left cnt)
    (hDone : (∀ s, left s = false) → wpList Tryd.prog ops Q rest (a.put o.dst (.tuple #[.bool false])) w)
    (hMore : ∀ (s : Int) (v : Value) (w' : World) (cnt' : Nat), left s = true → f s = some v → KR w' b r n f (fun t => left t && !decide (t = s)) cnt' → cnt' < cnt → w.grownBy w' (some r) → w'.heap.size = w.heap.size →
      (Instr.entry (.pointer (some ⟨r, 0, none⟩))).run Tryd.prog w' = .ok (.tuple #[.int .i64 s, v]) w' → wpList Tryd.prog ops Q rest (a.put o.dst (.tuple #[.bool true, .int .i64 s, v])) w') :
    wpList Tryd.prog ops Q (o :: rest) a w := by
  obtain ⟨D, L, h1, h2, h3⟩ := h
  refine wpList_next_ranges w hg it hop 3 keyedI Rdv (Value.int .i64) (id : Value → Value) (fun key kl hkey => by obtain ⟨x, rfl, _⟩ := Maps.keyOf_int_inv Tryd.underlying3 hkey; exact ⟨x, rfl⟩) (fun v y hv => ⟨v, rfl⟩) b r n D L cnt hit h1 (fun _ hl => hDone fun s => by rw [← h3]; exact hl _) ?_
  intro x c kl y w' cnt' hkey hlk hv hat hrg hlt hgr hsz hen
  obtain ⟨x', ex, rfl, _⟩ := Maps.keyOf_int_inv Tryd.underlying3 hkey
  cases ex
  have hy : y.1 = .held c := by
    have : some ((.held c : DataW Value), ([] : List MemPlace)) = some y := hv
    cases this
    rfl
  obtain ⟨v, hv2, hd⟩ := at_some h2 hat
  rw [hy] at hd
  cases hd
  refine hMore x c w' cnt' (by rw [← h3]; exact hlk) hv2 ⟨D, _, hrg, h2, fun s => ?_⟩ hlt hgr hsz hen
  show (L (.int .i64 s) && !Lit.sameKey (.int .i64 s) (.int .i64 x)) = (left s && !decide (s = x))
  rw [h3]
  have e1 : Lit.sameKey (.int .i64 s) (.int .i64 x) = decide (s = x) := by
    unfold Lit.sameKey
    by_cases e : s = x
    · subst e
      simp
    · simp [e]
  rw [e1]
end Go.Proofs.YtgdhgipofaaogaaDoor
namespace Go.Proofs.YtgdhgipofaaogaaDoor
open Go Go.RowKit Gm

def fv2 (p : Int × Bool) : Value := .agg #[.int .i64 p.1, .bool p.2]
/-- The maps of what is known. -/
structure KMm (own : Nat → Ob) (W : World) (kb n : Nat) (KV : Nat → Value) (M : Km) : Prop where
  okb : own kb = .kb
  fv : FV 100 W kb n KV
  mp : ∀ i, i < n → (KV i = .map none ∧ ∀ r, M i r = none) ∨ ∃ m cnt, KV i = .map (some m) ∧ own m = .km i ∧ KM 3 W m cnt (fun r => (M i r).map fv2)
theorem KMm.ch {own own' : Nat → Ob} {W X : World} {kb n : Nat} {KV : Nat → Value} {M : Km} {S : Nat → Prop} (h : KMm own W kb n KV M) (hc : Ch S W X) (ho : ∀ b, b < W.heap.size → own b = .kb ∨ (∃ i, own b = .km i) → own' b = own b) (hS : ∀ b, own b = .kb ∨ (∃ i, own b = .km i) → ¬ S b) : KMm own' X kb n KV M where
  okb := by rw [ho _ h.fv.lt (.inl h.okb)]; exact h.okb
  fv := h.fv.ch hc (hS _ (.inl h.okb))
  mp := fun i hi => by
    rcases h.mp i hi with h1 | ⟨m, cnt, h1, h2, h3⟩
    · exact .inl h1
    · exact .inr ⟨m, cnt, h1, by rw [ho _ h3.lt (.inr ⟨i, h2⟩)]; exact h2, h3.same (hc.block m h3.lt (hS _ (.inr ⟨i, h2⟩)))⟩
theorem zeroF (W : World) : (zeroValue 98).run Tryd.prog W = .ok (.agg #[.int .i64 0, .bool false]) W := by kernel_rfl
/-- What is found of a register in a place's map. -/
def kmv (M : Km) (a : Nat) (r : Int) : Int × Bool := (M a r).getD (0, false)
theorem kmv_x (M : Km) (a : Nat) (r : Int) : Xv M a r = if (kmv M a r).2 = true then some (kmv M a r).1 else none := by
  unfold Xv kmv
  cases h : M a r with
  | none => rfl
  | some p =>
    obtain ⟨n, t⟩ := p
    cases t <;> rfl
theorem look_none (W : World) (r : Int) (h : In6 r) : (Instr.lookup 100 (.map none) (.int .i64 r) false).run Tryd.prog W = .ok (.agg #[.int .i64 0, .bool false]) W := by
  have hk := keyI h
  have hc := keyedI.check W true hk
  have hf : (Instr.findKey 3 (.int .i64 r) []).run Tryd.prog W = .ok none W := by
    rcases keyedI.find W hk [] (fun e he => by cases he) with ⟨h1, -⟩ | ⟨j, e, -, h2, -⟩
    · exact h1
    · simp at h2
  simp [Instr.lookup, run_underlying Tryd.underlying100, hc, hf, zeroF, Result.andThen]
theorem KMm.look {own : Nat → Ob} {W : World} {kb n : Nat} {KV : Nat → Value} {M : Km} (h : KMm own W kb n KV M) {a : Nat} (ha : a < n) {r : Int} (hr : In6 r) : (Instr.lookup 100 (KV a) (.int .i64 r) false).run Tryd.prog W = .ok (.agg #[.int .i64 (kmv M a r).1, .bool (kmv M a r).2]) W := by
  rcases h.mp a ha with ⟨h1, h2⟩ | ⟨m, cnt, h1, -, h3⟩
  · rw [h1, look_none W r hr]
    unfold kmv
    rw [h2 r]
    rfl
  · rw [h1, h3.look_ok keyedI Tryd.underlying100 (zeroF W) (keyI hr) false]
    unfold kmv
    cases M a r <;> rfl
/-- What ahead tells. -/
def AhdP (W : World) (M : Km) (a : Nat) (r : Int) (e : Ending) (w' : World) : Prop := e = .returned (.tuple #[.int .i64 (kmv M a r).1, .bool (kmv M a r).2]) ∧ Below W.heap.size W w'
set_option maxRecDepth 100000 in
set_option maxHeartbeats 4000000 in
theorem ahead_c {own : Nat → Ob} {W : World} {g kb n a : Nat} {F KV : Nat → Value} {M : Km} {r : Int} (hF : Hid (FV 69 W g 8 F)) (hFk : F 2 = .slice (some ⟨kb, 0, none⟩) n n) (hK : Hid (KMm own W kb n KV M)) (ha : a < n) (hn : n ≤ 5000) (hr : In6 r) : Calls Tryd.prog 23 #[.pointer (some ⟨g, 0, none⟩), .int .i64 a, .int .i64 r] W (AhdP W M a r) := by
  have hg0 := hF.out.lt
  have c2 := hF.out.cell (i := 2) (by omega)
  rw [hFk] at c2
  have ck := hK.out.fv.cell ha
  have hlk := hK.out.look ha hr
  obtain ⟨v, hv⟩ : ∃ v, KV a = v := ⟨_, rfl⟩
  rw [hv] at ck hlk
  obtain ⟨z, hz⟩ : ∃ z, kmv M a r = z := ⟨_, rfl⟩
  rw [hz] at hlk
  have HZ := Lib.hid hz
  clear hv hz
  go_enter Tryd.func23, Tryd.ntmps23
  go_upto_region 2 with (fail)
  go_quiet (fail)
  go_wp2
  go_ret2
  have hend : ∀ X, Below W.heap.size W X → AhdP W M a r (.returned (.tuple #[.int .i64 z.1, .bool z.2])) X := fun X hX => ⟨by rw [HZ.out], hX⟩
  exact hend _ (below_like (below1 W _) rfl rfl rfl rfl)
end Go.Proofs.YtgdhgipofaaogaaDoor
namespace Go.Proofs.YtgdhgipofaaogaaDoor
open Go Go.RowKit Go.ChangeMaps Go.MapKept Go.WideElems Go.Maps

/-- A map that knows f, with c entries. -/
def KC (K : TypeId) (W : World) (b n c : Nat) (f : KF) : Prop := ∃ D : DataW Value, W.ownsMap Tryd.prog K Rdv b n D ∧ (∀ (s : Int) (z : DataW Value), D.atKey (.int .i64 s) z = match f s with | some v => .held v | none => z) ∧ Maps.size D = c
theorem KC.km {K : TypeId} {W : World} {b n c : Nat} {f : KF} (h : KC K W b n c f) : KM K W b n f := by
  obtain ⟨D, h1, h2, -⟩ := h
  exact ⟨D, h1, h2⟩
theorem KM.kc {K : TypeId} {W : World} {b n : Nat} {f : KF} (h : KM K W b n f) : ∃ c, c ≤ n ∧ KC K W b n c f := by
  obtain ⟨D, h1, h2⟩ := h
  exact ⟨_, h1.size_le, D, h1, h2, rfl⟩
theorem KC.same {K : TypeId} {W X : World} {b n c : Nat} {f : KF} (h : KC K W b n c f) (e : X.heap[b]? = W.heap[b]?) : KC K X b n c f := by
  obtain ⟨D, ⟨es, clock, hb, r⟩, h2⟩ := h
  exact ⟨D, ⟨es, clock, e.trans hb, r⟩, h2⟩
theorem has_f {D : DataW Value} {f : KF} (h2 : ∀ (s : Int) (z : DataW Value), D.atKey (.int .i64 s) z = match f s with | some v => .held v | none => z) (s : Int) : Maps.has D (.int .i64 s) = (f s).isSome := by
  cases hf : f s with
  | none => exact Maps.has_false_of_atKey fun z => by rw [h2, hf]
  | some v => exact Maps.has_true_of_atKey (y := .held v) fun z => by rw [h2, hf]
section
variable {K : TypeId} {ops : Array Oper} {rest : List Oper} {o : Oper} {a : Act} {Q : Exit → Act → World → Prop} {w : World} {t e : TypeId}
/-- The number of entries. -/
theorem wpList_lenC (hg : o.guard = none) (m : Operand) (hop : o.op = Op.call { callee := Callee.builtin Builtin.len, args := #[m], argTypes := #[t] }) (ht : Tryd.prog.underlying t = some (.map K e)) (b n c : Nat) (f : KF) (hm : a.eval m = .map (some b)) (h : KC K w b n c f)
    (hK : wpList Tryd.prog ops Q rest (a.put o.dst (.int .i64 c)) w) : wpList Tryd.prog ops Q (o :: rest) a w := by
  obtain ⟨D, h1, h2, rfl⟩ := h
  exact wpList_len_own w hg m t hop K e ht Rdv b n D hm h1 hK
/-- An entry is put: the number of entries grows if the key is new. -/
theorem wpList_putC (hg : o.guard = none) (m x v : Operand) (hop : o.op = Op.mapUpdate t m x v) (hk : Keyed Tryd.prog K) (ht : Tryd.prog.underlying t = some (.map K e)) (b n c : Nat) (f : KF) (hm : a.eval m = .map (some b)) (h : KC K w b n c f) (hn : n < maxLen)
    (s : Int) (val : Value) (hx : a.eval x = .int .i64 s) (hv : a.eval v = val) (hs : keyOf Tryd.prog K (.int .i64 s) = some (.int .i64 s))
    (hK : ∀ w', KC K w' b (n + 1) (if (f s).isSome = true then c else c + 1) (f.upd s val) → w.grownBy w' (some b) → wpList Tryd.prog ops Q rest (a.put o.dst undef) w') : wpList Tryd.prog ops Q (o :: rest) a w := by
  obtain ⟨D, h1, h2, rfl⟩ := h
  exact wpList_mapUpdate_own w hg m x v _ hop K e hk ht Rdv b n D hm h1 hn (.int .i64 s) val _ hx hv hs _ _ rfl fun w' g1 g2 => hK w' ⟨_, g1, KM.put_ h1.isMap h2, by rw [Maps.size_put (h1.tidy hk), has_f h2]⟩ g2
end
/-- No more entries than keys can be. -/
theorem KM.within {W : World} {b n : Nat} {f : KF} (h : KM 3 W b n f) (L : List Int) (hf : ∀ s, f s ≠ none → s ∈ L) : KM 3 W b L.length f := by
  obtain ⟨D, ⟨es, clock, hb, F, hn, rfl⟩, h2⟩ := h
  refine ⟨_, ⟨es, clock, hb, F, ?_, rfl⟩, h2⟩
  have key : ∀ x ∈ es.toList, ∃ s, x.key = .int .i64 s ∧ s ∈ L := fun x hx => by
    obtain ⟨s, h3, -, h5⟩ := KM.entry (W := W) (b := b) (n := n) F h2 hx
    exact ⟨s, h3, hf s (by rw [h5]; simp)⟩
  have hp := ((stamped_iff es clock).1 F.stamped).2.2
  rw [← Array.length_toList]
  generalize es.toList = l at hp key
  clear h2 F hb hn hf
  induction l generalizing L with
  | nil => simp
  | cons x r ih =>
    obtain ⟨s, hs, hL⟩ := key x (by simp)
    obtain ⟨h1, h2⟩ := List.pairwise_cons.1 hp
    have := ih (L.erase s) h2 (fun y hy => ?_)
    · rw [List.length_erase_of_mem hL] at this
      have : 0 < L.length := List.length_pos_of_mem hL
      simp only [List.length_cons]
      omega
    · obtain ⟨s', hs', hL'⟩ := key y (by simp [hy])
      have hne : s' ≠ s := fun e => h1 y hy (by rw [hs, hs', e])
      exact ⟨s', hs', (List.mem_erase_of_ne hne).2 hL'⟩
end Go.Proofs.YtgdhgipofaaogaaDoor
namespace Go.Proofs.YtgdhgipofaaogaaDoor
open Go Go.RowKit Gm Go.ChangeMaps

def ownM (own : Nat → Ob) (C : Nat) (t : Ob) : Nat → Ob := fun b => if b = C then t else own b
theorem ownM_at {own : Nat → Ob} {C : Nat} {t : Ob} : ownM own C t C = t := if_pos rfl
theorem ownM_of {own : Nat → Ob} {C b : Nat} {t : Ob} (h : b < C) : ownM own C t b = own b := if_neg (by omega)
theorem KMm.put {own : Nat → Ob} {W X : World} {kb n a m cnt : Nat} {KV : Nat → Value} {M : Km} {r : Int} {v : Int × Bool} (h : KMm own W kb n KV M) (e : KV a = .map (some m)) (hom : own m = .km a) (hk : KM 3 X m cnt (KF.upd (fun s => (M a s).map fv2) r (fv2 v))) (hg : W.grownBy X (some m)) : KMm own X kb n KV (setM M a r (some v)) := by
  have hc : Ch (fun z => z = m) W X := (Ch.refl (fun z => z = m) _).grown hg (fun z e => .inl (by cases e; rfl))
  refine ⟨h.okb, h.fv.ch hc (fun e => by have h1 := h.okb; rw [e, hom] at h1; cases h1), fun i hi => ?_⟩
  by_cases hia : i = a
  · subst hia
    refine .inr ⟨m, cnt, e, hom, ?_⟩
    have ef : (fun s => (setM M i r (some v) i s).map fv2) = KF.upd (fun s => (M i s).map fv2) r (fv2 v) := by
      funext s
      unfold KF.upd setM
      by_cases hs : s = r
      · simp [hs]
      · simp [hs]
    rw [ef]
    exact hk
  · have es : ∀ s, setM M a r (some v) i s = M i s := fun s => setM_of fun h => hia h.1
    rcases h.mp i hi with ⟨h1, h2⟩ | ⟨m', c', h1, h2, h3⟩
    · exact .inl ⟨h1, fun s => by rw [es, h2]⟩
    · refine .inr ⟨m', c', h1, h2, ?_⟩
      have hne : ¬ m' = m := fun e' => by rw [e', hom] at h2; cases h2; exact hia rfl
      simp only [es]
      exact h3.same (hc.block m' h3.lt hne)
theorem KMm.new {own : Nat → Ob} {W : World} {kb n a : Nat} {KV : Nat → Value} {M : Km} (h : KMm own W kb n KV M) (ha : a < n) (e : KV a = .map none) : KMm (ownM own W.heap.size (.km a)) ((W.setCell ⟨kb, a, none⟩ (.map (some W.heap.size))).alloc (.map #[] 0)) kb n (upd KV a (.map (some W.heap.size))) M := by
  have hkb := h.fv.lt
  have hM : ∀ r, M a r = none := by
    rcases h.mp a ha with ⟨-, h2⟩ | ⟨m, c, h1, -, -⟩
    · exact h2
    · rw [e] at h1; cases h1
  have hc : Ch (fun z => z = kb) W ((W.setCell ⟨kb, a, none⟩ (.map (some W.heap.size))).alloc (.map #[] 0)) := ((Ch.refl (fun z => z = kb) W).set (.inl rfl) _ _).alloc _
  refine ⟨by rw [ownM_of hkb]; exact h.okb, (h.fv.set _ _).alloc _, fun i hi => ?_⟩
  by_cases hia : i = a
  · subst hia
    refine .inr ⟨W.heap.size, 0, upd_at .., ownM_at, ?_⟩
    have ef : (fun s => (M i s).map fv2) = (fun _ => none) := by funext s; rw [hM]; rfl
    rw [ef]
    have hsz : (W.setCell ⟨kb, i, none⟩ (.map (some W.heap.size))).heap.size = W.heap.size := by simp [World.setCell]
    have := KM.made 3 (W.setCell ⟨kb, i, none⟩ (.map (some W.heap.size)))
    rw [hsz] at this
    exact this
  · rcases h.mp i hi with ⟨h1, h2⟩ | ⟨m', c', h1, h2, h3⟩
    · exact .inl ⟨by rw [upd_of hia]; exact h1, h2⟩
    · have hne : ¬ m' = kb := fun e' => by rw [e', h.okb] at h2; cases h2
      exact .inr ⟨m', c', by rw [upd_of hia]; exact h1, by rw [ownM_of h3.lt]; exact h2, h3.same (hc.block m' h3.lt hne)⟩
/-- What open does. -/
def OpnP (own : Nat → Ob) (W : World) (kb n : Nat) (M : Km) (a : Nat) (r : Int) (e : Ending) (w' : World) : Prop := e = .returned (.bool (M a r).isNone) ∧ ∃ own' KV', (∀ b, b < W.heap.size → own' b = own b) ∧ KMm own' w' kb n KV' (setM M a r (some (0, false))) ∧ Ch (fun z => z = kb ∨ own z = .km a) W w'
theorem one_up (M : Km) (a : Nat) (r : Int) (c : Nat) : ∃ c4 : Nat, (if ((fun s => (M a s).map fv2) r).isSome = true then c else c + 1) = c4 ∧ decide (c < c4) = (M a r).isNone := by
  cases h : M a r with
  | none => exact ⟨c + 1, by simp [h], by simp⟩
  | some v => exact ⟨c, by simp [h], by simp⟩
theorem eqlNilF (w : World) : (binOp .eql 100 (.map none) (.map none)).run Tryd.prog w = .ok (.bool true) w := by kernel_rfl
theorem eqlSomeF (b : Nat) (w : World) : (binOp .eql 100 (.map (some b)) (.map none)).run Tryd.prog w = .ok (.bool false) w := by kernel_rfl
set_option maxRecDepth 100000 in
set_option maxHeartbeats 4000000 in
theorem open_c {own : Nat → Ob} {W : World} {g kb n a : Nat} {F KV : Nat → Value} {M : Km} {r : Int} {L : List Int} (hF : Hid (FV 69 W g 8 F)) (hFk : F 2 = .slice (some ⟨kb, 0, none⟩) n n) (hK : Hid (KMm own W kb n KV M)) (hog : own g = .f) (ha : a < n) (hn : n ≤ 5000) (hr : In6 r) (hL : Hid (∀ s, M a s ≠ none → s ∈ L)) (hLl : L.length ≤ 1000000) : Calls Tryd.prog 41 #[.pointer (some ⟨g, 0, none⟩), .int .i64 a, .int .i64 r] W (OpnP own W kb n M a r) := by
  have hmm := @run_makeMap Tryd.prog
  have qn := eqlNilF
  have qs := eqlSomeF
  have hg0 := hF.out.lt
  have c2 := hF.out.cell (i := 2) (by omega)
  rw [hFk] at c2
  have hkb := hK.out.fv.lt
  have ck := hK.out.fv.cell ha
  have hf : ∀ s, (fun s => (M a s).map fv2) s ≠ none → s ∈ L := fun s hs => hL.out s fun e => hs (by simp [e])
  have HFL := Lib.hid hf
  have hkr := keyI hr
  have hgk : g ≠ kb := fun e => by have h1 := hK.out.okb; rw [← e, hog] at h1; cases h1
  have hLm : L.length < maxLen := by unfold maxLen; omega
  clear hf
  rcases hK.out.mp a ha with ⟨h1, h2⟩ | ⟨m, cnt, h1, h2, h3⟩
  · have HN := Lib.hid (hK.out.new ha h1)
    have H1 := Lib.hid h1
    rw [h1] at ck
    have zk := hK.out.fv.frozen a
    clear h1 h2
    go_enter Tryd.func41, Tryd.ntmps41
    go_upto_region 3 with (fail)
    refine name_world ?_
    intro W1 hW1
    obtain ⟨m, hm⟩ : ∃ m, W.heap.size = m := ⟨_, rfl⟩
    have HN1 : Hid (KMm (ownM own m (.km a)) W1 kb n (upd KV a (.map (some m))) M) := Lib.hid (by rw [hW1, ← hm]; exact HN.out)
    have HC1 : Hid (Ch (fun z => z = kb) W W1) := Lib.hid (by rw [hW1]; exact ((Ch.refl (fun z => z = kb) W).set (.inl rfl) _ _).alloc _)
    have c2 := (HC1.out.cell (b := g) (o := 2) hg0 hgk).trans c2
    have hg1 := Nat.lt_of_lt_of_le hg0 HC1.out.size
    have hkb1 := HN1.out.fv.lt
    have ck1 := HN1.out.fv.cell ha
    rw [upd_at] at ck1
    have HMS := Lib.hid hm
    try rw [hm]
    clear hW1 ck zk hg0 hkb hm HN
    obtain ⟨c, -, hkc⟩ := (show ∃ cnt, KM 3 W1 m cnt (fun s => (M a s).map fv2) from (by
      rcases HN1.out.mp a ha with ⟨h1, -⟩ | ⟨m', cnt, h1, -, h3⟩
      · rw [upd_at] at h1; cases h1
      · rw [upd_at] at h1; cases h1; exact ⟨cnt, h3⟩)).choose_spec.within L HFL.out |>.kc
    have HKC := Lib.hid hkc
    obtain ⟨c4, e4, hb4⟩ := one_up M a r c
    clear hkc
    go_upto_region 6 with (first | (at_len; refine wpList_lenC rfl (.tmp 31) rfl Tryd.underlying100 m _ c _ rfl HKC.out ?_) | (at_mapUpdate; refine wpList_putC rfl (.tmp 33) (.tmp 34) (.tmp 35) rfl keyedI Tryd.underlying100 m _ c _ rfl HKC.out hLm r (fv2 (0, false)) rfl rfl hkr ?_; rw [e4]; intro w4 hk4 hg4; have HW4 := Lib.hid (And.intro hk4 hg4); clear hk4 hg4))
    go_wp2_with (at_len; refine wpList_lenC rfl (.tmp 36) rfl Tryd.underlying100 m _ c4 _ rfl HW4.out.1 ?_)
    go_ret
    exact ⟨rfl, ownM own m (.km a), upd KV a (.map (some m)), fun b hb => ownM_of (HMS.out ▸ hb), HN1.out.put (upd_at ..) ownM_at HW4.out.1.km HW4.out.2, (HC1.out.mono fun z _ e => .inl e).grown HW4.out.2 fun b e => .inr (by cases e; exact Nat.le_of_eq HMS.out)⟩
  · subst_vars
    rw [h1] at ck
    have HM := Lib.hid h2
    obtain ⟨c, -, hkc⟩ := (h3.within L HFL.out).kc
    have HKC := Lib.hid hkc
    obtain ⟨c4, e4, hb4⟩ := one_up M a r c
    have H1 := Lib.hid h1
    clear hkc h1 h2 h3
    go_enter Tryd.func41, Tryd.ntmps41
    go_upto_region 6 with (first | (at_len; refine wpList_lenC rfl (.tmp 31) rfl Tryd.underlying100 m _ c _ rfl HKC.out ?_) | (at_mapUpdate; refine wpList_putC rfl (.tmp 33) (.tmp 34) (.tmp 35) rfl keyedI Tryd.underlying100 m _ c _ rfl HKC.out hLm r (fv2 (0, false)) rfl rfl hkr ?_; rw [e4]; intro w4 hk4 hg4; have HW4 := Lib.hid (And.intro hk4 hg4); clear hk4 hg4))
    go_wp2_with (at_len; refine wpList_lenC rfl (.tmp 36) rfl Tryd.underlying100 m _ c4 _ rfl HW4.out.1 ?_)
    go_ret
    exact ⟨rfl, own, KV, fun _ _ => rfl, hK.out.put H1.out HM.out HW4.out.1.km HW4.out.2, (Ch.refl _ _).grown HW4.out.2 fun b e => .inl (.inr (by cases e; exact HM.out))⟩
end Go.Proofs.YtgdhgipofaaogaaDoor
namespace Go.Proofs.YtgdhgipofaaogaaDoor
open Go Go.RowKit Gm Go.ChangeMaps

/-- The rows that a map knows are what is led to. -/
def LRow (B : Nat) (own : Nat → Ob) (W : World) (i : Nat) (r : Int) (l : List Nat) : Option Value → Prop
  | none => l = []
  | some v => SR B W v (l.map Int.ofNat) ∧ ∀ g, v.ownBlock = some g → own g = .lr i r
structure LMm (B : Nat) (own : Nat → Ob) (W : World) (lb n : Nat) (LV : Nat → Value) (Lf : Nat → KF) (Ld : Nat → Int → List Nat) : Prop where
  olb : own lb = .lb
  fv : FV 101 W lb n LV
  mp : ∀ i, i < n → (LV i = .map none ∧ ∀ r, Lf i r = none) ∨ ∃ m cnt, LV i = .map (some m) ∧ own m = .lm i ∧ KM 3 W m cnt (Lf i)
  sr : ∀ i r, i < n → LRow B own W i r (Ld i r) (Lf i r)
section
variable {B : Nat} {own own' : Nat → Ob} {W X : World} {lb n a : Nat} {LV : Nat → Value} {Lf : Nat → KF} {Ld : Nat → Int → List Nat} {S : Nat → Prop}
theorem LRow.ch {i : Nat} {r : Int} {l : List Nat} {o : Option Value} (h : LRow B own W i r l o) (hc : Ch S W X) (ho : ∀ b, b < W.heap.size → own b = .lr i r → own' b = own b) (hS : ∀ b, own b = .lr i r → ¬ S b) : LRow B own' X i r l o := by
  cases o with
  | none => exact h
  | some v => exact ⟨h.1.ch hc fun g e => hS g (h.2 g e), fun g e => by rw [ho g (h.1.lt g e).2 (h.2 g e)]; exact h.2 g e⟩
theorem LMm.ch (h : LMm B own W lb n LV Lf Ld) (hc : Ch S W X) (ho : ∀ b, b < W.heap.size → own' b = own b) (hS : ∀ b, own b = .lb ∨ (∃ i, own b = .lm i) ∨ (∃ i r, own b = .lr i r) → ¬ S b) : LMm B own' X lb n LV Lf Ld where
  olb := by rw [ho _ h.fv.lt]; exact h.olb
  fv := h.fv.ch hc (hS _ (.inl h.olb))
  mp := fun i hi => by
    rcases h.mp i hi with h1 | ⟨m, cnt, h1, h2, h3⟩
    · exact .inl h1
    · exact .inr ⟨m, cnt, h1, by rw [ho _ h3.lt]; exact h2, h3.same (hc.block m h3.lt (hS _ (.inr (.inl ⟨i, h2⟩))))⟩
  sr := fun i r hi => (h.sr i r hi).ch hc (fun b hb _ => ho b hb) fun b e => hS b (.inr (.inr ⟨i, r, e⟩))
theorem zeroL (W : World) : (zeroValue 64).run Tryd.prog W = .ok (.slice none 0 0) W := by kernel_rfl
/-- The row that is found. -/
def lfv (Lf : Nat → KF) (a : Nat) (r : Int) : Value := (Lf a r).getD (.slice none 0 0)
theorem look_noneL (W : World) (r : Int) (h : In6 r) : (Instr.lookup 101 (.map none) (.int .i64 r) false).run Tryd.prog W = .ok (.slice none 0 0) W := by
  have hk := keyI h
  have hc := keyedI.check W true hk
  have hf : (Instr.findKey 3 (.int .i64 r) []).run Tryd.prog W = .ok none W := by
    rcases keyedI.find W hk [] (fun e he => by cases he) with ⟨h1, -⟩ | ⟨j, e, -, h2, -⟩
    · exact h1
    · simp at h2
  simp [Instr.lookup, run_underlying Tryd.underlying101, hc, hf, zeroL, Result.andThen]
theorem LMm.look (h : LMm B own W lb n LV Lf Ld) (ha : a < n) {r : Int} (hr : In6 r) : (Instr.lookup 101 (LV a) (.int .i64 r) false).run Tryd.prog W = .ok (lfv Lf a r) W := by
  rcases h.mp a ha with ⟨h1, h2⟩ | ⟨m, cnt, h1, -, h3⟩
  · rw [h1, look_noneL W r hr]
    unfold lfv
    rw [h2 r]
    rfl
  · rw [h1, h3.look_ok keyedI Tryd.underlying101 (zeroL W) (keyI hr) false]
    unfold lfv
    cases Lf a r <;> rfl
theorem LMm.row (h : LMm B own W lb n LV Lf Ld) (ha : a < n) (r : Int) : SR B W (lfv Lf a r) ((Ld a r).map Int.ofNat) ∧ ∀ g, (lfv Lf a r).ownBlock = some g → own g = .lr a r := by
  have h1 := h.sr a r ha
  unfold lfv
  cases hf : Lf a r with
  | none =>
    rw [hf] at h1
    have h1 : Ld a r = [] := h1
    rw [h1]
    exact ⟨SR.nil _ _, fun g e => by cases e⟩
  | some v =>
    rw [hf] at h1
    exact h1
/-- A place gets its map. -/
theorem LMm.new (h : LMm B own W lb n LV Lf Ld) (ha : a < n) (e : LV a = .map none) : LMm B (ownM own W.heap.size (.lm a)) ((W.setCell ⟨lb, a, none⟩ (.map (some W.heap.size))).alloc (.map #[] 0)) lb n (upd LV a (.map (some W.heap.size))) Lf Ld := by
  have hlb := h.fv.lt
  have hM : ∀ r, Lf a r = none := by
    rcases h.mp a ha with ⟨-, h2⟩ | ⟨m, c, h1, -, -⟩
    · exact h2
    · rw [e] at h1; cases h1
  have hc : Ch (fun z => z = lb) W ((W.setCell ⟨lb, a, none⟩ (.map (some W.heap.size))).alloc (.map #[] 0)) := ((Ch.refl (fun z => z = lb) W).set (.inl rfl) _ _).alloc _
  refine ⟨by rw [ownM_of hlb]; exact h.olb, (h.fv.set _ _).alloc _, fun i hi => ?_, fun i r hi => (h.sr i r hi).ch hc (fun b hb _ => ownM_of hb) fun b hb e' => by rw [e', h.olb] at hb; cases hb⟩
  by_cases hia : i = a
  · subst hia
    refine .inr ⟨W.heap.size, 0, upd_at .., ownM_at, ?_⟩
    have ef : Lf i = (fun _ => none) := by funext s; exact hM s
    rw [ef]
    have hsz : (W.setCell ⟨lb, i, none⟩ (.map (some W.heap.size))).heap.size = W.heap.size := by simp [World.setCell]
    have := KM.made 3 (W.setCell ⟨lb, i, none⟩ (.map (some W.heap.size)))
    rw [hsz] at this
    exact this
  · rcases h.mp i hi with ⟨h1, h2⟩ | ⟨m', c', h1, h2, h3⟩
    · exact .inl ⟨by rw [upd_of hia]; exact h1, h2⟩
    · have hne : ¬ m' = lb := fun e' => by rw [e', h.olb] at h2; cases h2
      exact .inr ⟨m', c', by rw [upd_of hia]; exact h1, by rw [ownM_of h3.lt]; exact h2, h3.same (hc.block m' h3.lt hne)⟩
/-- One more place is led to. -/
def putL (Ld : Nat → Int → List Nat) (a : Nat) (r : Int) (q : Nat) : Nat → Int → List Nat := fun i s => if i = a ∧ s = r then Ld a r ++ [q] else Ld i s
theorem LMm.push {Y : World} {v : Value} {m cnt q : Nat} {r : Int} (h : LMm B own W lb n LV Lf Ld) (ha : a < n) (e : LV a = .map (some m)) (hom : own m = .lm a) (hc : Ch (fun z => (lfv Lf a r).ownBlock = some z) W Y) (hsr : SR B Y v ((Ld a r ++ [q]).map Int.ofNat)) (hat : v.ownBlock = (lfv Lf a r).ownBlock ∨ ∃ g, v.ownBlock = some g ∧ W.heap.size ≤ g) (hk : KM 3 X m cnt (KF.upd (Lf a) r v)) (hg : Y.grownBy X (some m)) (hmW : m < W.heap.size) :
    LMm B (ownN own W.heap.size v (.lr a r)) X lb n LV (fun i => if i = a then KF.upd (Lf a) r v else Lf i) (putL Ld a r q) := by
  have hrow := h.row ha r
  have hc2 : Ch (fun z => z = m ∨ (lfv Lf a r).ownBlock = some z) W X := (hc.mono fun z _ e => .inr e).grown hg fun b e => .inl (.inl (by cases e; rfl))
  have hne : ∀ b, own b ≠ .lm a → own b ≠ .lr a r → ¬ (b = m ∨ (lfv Lf a r).ownBlock = some b) := fun b h1 h2 e => by
    rcases e with e | e
    · exact h1 (e ▸ hom)
    · exact h2 (hrow.2 b e)
  refine ⟨by rw [ownN_old h.fv.lt]; exact h.olb, h.fv.ch hc2 (hne _ (by rw [h.olb]; simp) (by rw [h.olb]; simp)), fun i hi => ?_, fun i s hi => ?_⟩
  · by_cases hia : i = a
    · subst hia
      refine .inr ⟨m, cnt, e, by rw [ownN_old hmW]; exact hom, ?_⟩
      simp only [if_true]
      exact hk
    · simp only [if_neg hia]
      rcases h.mp i hi with h1 | ⟨m', c', h1, h2, h3⟩
      · exact .inl h1
      · exact .inr ⟨m', c', h1, by rw [ownN_old h3.lt]; exact h2, h3.same (hc2.block m' h3.lt (hne _ (by rw [h2]; simpa using hia) (by rw [h2]; simp)))⟩
  · by_cases his : i = a ∧ s = r
    · obtain ⟨rfl, rfl⟩ := his
      have e1 : putL Ld i s q i s = Ld i s ++ [q] := if_pos ⟨rfl, rfl⟩
      have e2 : (if i = i then KF.upd (Lf i) s v else Lf i) s = some v := by simp [KF.upd]
      rw [e1, e2]
      refine ⟨hsr.of_heap fun g eg => hg.block g (hsr.lt g eg).2 fun e3 => ?_, fun g eg => ownN_at hrow.2 hat eg⟩
      cases e3
      rcases hat with hat | ⟨g', hg', hC⟩
      · have h1 := hrow.2 _ (hat ▸ eg)
        rw [hom] at h1
        cases h1
      · rw [eg] at hg'
        cases hg'
        omega
    · have e1 : putL Ld a r q i s = Ld i s := if_neg his
      have e2 : (if i = a then KF.upd (Lf a) r v else Lf i) s = Lf i s := by
        by_cases hia : i = a
        · subst hia
          have hs : s ≠ r := fun h => his ⟨rfl, h⟩
          simp [KF.upd, hs]
        · simp [hia]
      rw [e1, e2]
      exact (h.sr i s hi).ch hc2 (fun b hb _ => ownN_old hb) fun b eb => hne b (by rw [eb]; simp) (by rw [eb]; intro h; cases h; exact his ⟨rfl, rfl⟩)
end
end Go.Proofs.YtgdhgipofaaogaaDoor
namespace Go.Proofs.YtgdhgipofaaogaaDoor
open Go Go.RowKit Gm

/-- What the asking writes. -/
def LS (own : Nat → Ob) (z : Nat) : Prop := own z = .f ∨ own z = .lb ∨ (∃ i, own z = .lm i) ∨ (∃ i r, own z = .lr i r) ∨ ∃ k, own z = .qr k ∨ own z = .qp k ∨ ∃ i, own z = .q k i
structure LA (B : Nat) (own : Nat → Ob) (W : World) (g lb n ra rw : Nat) (F LV VA VW : Nat → Value) (Lf : Nat → KF) (Ld : Nat → Int → List Nat) (PA : List Nat) (RA : Nat → List Int) (PW : List Nat) (RW : Nat → List Int) : Prop where
  og : own g = .f
  fv : FV 69 W g 8 F
  f3 : F 3 = .slice (some ⟨lb, 0, none⟩) n n
  f5 : F 5 = .slice (some ⟨ra, 0, none⟩) n n
  f7 : F 7 = .slice (some ⟨rw, 0, none⟩) n n
  lm : LMm B own W lb n LV Lf Ld
  qa : QM B own W 4 n (F 4) ra VA PA RA
  qw : QM B own W 6 n (F 6) rw VW PW RW
section
variable {B : Nat} {own own' : Nat → Ob} {W X : World} {g lb n ra rw a : Nat} {F LV VA VW : Nat → Value} {Lf : Nat → KF} {Ld : Nat → Int → List Nat} {PA PW : List Nat} {RA RW : Nat → List Int} {S : Nat → Prop} {r : Int} {e : Ending}
theorem LA.ch (h : LA B own W g lb n ra rw F LV VA VW Lf Ld PA RA PW RW) (hc : Ch S W X) (ho : ∀ b, b < W.heap.size → own' b = own b) (hS : ∀ b, own b ≠ .no → ¬ S b) : LA B own' X g lb n ra rw F LV VA VW Lf Ld PA RA PW RW where
  og := by rw [ho _ h.fv.lt]; exact h.og
  fv := h.fv.ch hc (hS _ (by rw [h.og]; simp))
  f3 := h.f3
  f5 := h.f5
  f7 := h.f7
  lm := h.lm.ch hc ho fun b hb => hS b (by rcases hb with e | ⟨i, e⟩ | ⟨i, r, e⟩ <;> rw [e] <;> simp)
  qa := h.qa.ch hc ho fun b hb => hS b (by rcases hb with e | e | ⟨i, e⟩ <;> rw [e] <;> simp)
  qw := h.qw.ch hc ho fun b hb => hS b (by rcases hb with e | e | ⟨i, e⟩ <;> rw [e] <;> simp)
theorem QS.ls {k : Nat} (hog : own g = .f) {z : Nat} (h : QS own g k z) : LS own z := by
  rcases h with h | h | h | ⟨i, h⟩
  · exact .inl (h ▸ hog)
  · exact .inr (.inr (.inr (.inr ⟨k, .inl h⟩)))
  · exact .inr (.inr (.inr (.inr ⟨k, .inr (.inl h)⟩)))
  · exact .inr (.inr (.inr (.inr ⟨k, .inr (.inr ⟨i, h⟩)⟩)))
theorem QM.other {k k' : Nat} {vP : Value} {rb : Nat} {RV : Nat → Value} {P : List Nat} {R : Nat → List Int} (h : QM B own W k n vP rb RV P R) (hk : k ≠ k') (hog : own g = .f) (hc : Ch (QS own g k') W X) (ho : ∀ b, b < W.heap.size → own' b = own b) : QM B own' X k n vP rb RV P R := h.ch hc ho fun b hb hs => by
  rcases hs with rfl | hs | hs | ⟨j, hs⟩
  · rw [hog] at hb; rcases hb with e | e | ⟨i, e⟩ <;> cases e
  · rw [hs] at hb; rcases hb with e | e | ⟨i, e⟩ <;> cases e; exact hk rfl
  · rw [hs] at hb; rcases hb with e | e | ⟨i, e⟩ <;> cases e; exact hk rfl
  · rw [hs] at hb; rcases hb with e | e | ⟨i, e⟩ <;> cases e; exact hk rfl
theorem LMm.other {k' : Nat} (h : LMm B own W lb n LV Lf Ld) (hog : own g = .f) (hc : Ch (QS own g k') W X) (ho : ∀ b, b < W.heap.size → own' b = own b) : LMm B own' X lb n LV Lf Ld := h.ch hc ho fun b hb hs => by
  rcases hs with rfl | hs | hs | ⟨j, hs⟩
  · rw [hog] at hb; rcases hb with e | ⟨i, e⟩ | ⟨i, r, e⟩ <;> cases e
  · rw [hs] at hb; rcases hb with e | ⟨i, e⟩ | ⟨i, r, e⟩ <;> cases e
  · rw [hs] at hb; rcases hb with e | ⟨i, e⟩ | ⟨i, r, e⟩ <;> cases e
  · rw [hs] at hb; rcases hb with e | ⟨i, e⟩ | ⟨i, r, e⟩ <;> cases e
theorem LA.putA (h : LA B own W g lb n ra rw F LV VA VW Lf Ld PA RA PW RW) (hp : PutP B own W g 4 n ra F VA PA RA a r e X) :
    ∃ (v0 : Value) (own' : Nat → Ob) (F' VA' : Nat → Value), e = .returned v0 ∧ (∀ b, b < W.heap.size → own' b = own b) ∧ (∀ i, i ≠ 4 → i ≠ 6 → F' i = F i) ∧ LA B own' X g lb n ra rw F' LV VA' VW Lf Ld (putP PA RA a) (putR RA a r) PW RW ∧ Ch (LS own) W X := by
  obtain ⟨v0, vP, own', RV', rfl, ho, hfv, hq, hc⟩ := hp
  exact ⟨v0, own', upd F 4 vP, RV', rfl, ho, fun i h4 _ => upd_of h4, ⟨by rw [ho _ h.fv.lt]; exact h.og, hfv, by rw [upd_of (by omega)]; exact h.f3, by rw [upd_of (by omega)]; exact h.f5, by rw [upd_of (by omega)]; exact h.f7, h.lm.other h.og hc ho, by rw [upd_at]; exact hq, by rw [upd_of (by omega)]; exact h.qw.other (by omega) h.og hc ho⟩, hc.mono fun z _ hz => QS.ls h.og hz⟩
theorem LA.putW (h : LA B own W g lb n ra rw F LV VA VW Lf Ld PA RA PW RW) (hp : PutP B own W g 6 n rw F VW PW RW a r e X) :
    ∃ (v0 : Value) (own' : Nat → Ob) (F' VW' : Nat → Value), e = .returned v0 ∧ (∀ b, b < W.heap.size → own' b = own b) ∧ (∀ i, i ≠ 4 → i ≠ 6 → F' i = F i) ∧ LA B own' X g lb n ra rw F' LV VA VW' Lf Ld PA RA (putP PW RW a) (putR RW a r) ∧ Ch (LS own) W X := by
  obtain ⟨v0, vP, own', RV', rfl, ho, hfv, hq, hc⟩ := hp
  exact ⟨v0, own', upd F 6 vP, RV', rfl, ho, fun i _ h6 => upd_of h6, ⟨by rw [ho _ h.fv.lt]; exact h.og, hfv, by rw [upd_of (by omega)]; exact h.f3, by rw [upd_of (by omega)]; exact h.f5, by rw [upd_of (by omega)]; exact h.f7, h.lm.other h.og hc ho, by rw [upd_of (by omega)]; exact h.qa.other (by omega) h.og hc ho, by rw [upd_at]; exact hq⟩, hc.mono fun z _ hz => QS.ls h.og hz⟩
end
/-- Registers are put in a queue, one after the other. -/
def puts (a : Nat) : List Int → List Nat × (Nat → List Int) → List Nat × (Nat → List Int)
  | [], x => x
  | r :: l, x => puts a l (putP x.1 x.2 a, putR x.2 a r)
theorem puts_end (a : Nat) (l : List Int) (r : Int) (x : List Nat × (Nat → List Int)) : puts a (l ++ [r]) x = (putP (puts a l x).1 (puts a l x).2 a, putR (puts a l x).2 a r) := by
  induction l generalizing x with
  | nil => rfl
  | cons s l ih => exact ih _
end Go.Proofs.YtgdhgipofaaogaaDoor
namespace Go.Proofs.YtgdhgipofaaogaaDoor
open Go Go.RowKit Gm

theorem KMm.stay {own : Nat → Ob} {W X : World} {kb n : Nat} {KV : Nat → Value} {M : Km} (h : KMm own W kb n KV M) (hb : Below W.heap.size W X) : KMm own X kb n KV M := h.ch (S := fun _ => False) (Ch.of hb) (fun _ _ _ => rfl) fun _ _ => id
theorem In6.wf1 {n : Int} (h : In6 n) : (Lit.int .i64 n).wf = true := In6.wf h
/-- What behind tells. -/
def BhdP (W : World) (c : List Ic) (M : Km) (a : Nat) (r : Int) (e : Ending) (w' : World) : Prop := ∃ n t, e = .returned (.tuple #[.int .i64 n, .bool t]) ∧ bX c M a r = (if t = true then some n else none) ∧ Below W.heap.size W w'
set_option maxRecDepth 100000 in
set_option maxHeartbeats 8000000 in
theorem behind_c {own : Nat → Ob} {W : World} {g kb sb n a cap : Nat} {pc : Option Addr} {F KV : Nat → Value} {M : Km} {c : List Ic} {r : Int} {x : Ic} (hF : Hid (FV 69 W g 8 F)) (hF0 : F 0 = .slice pc n cap) (hF1 : F 1 = .slice (some ⟨sb, 0, none⟩) n n) (hFk : F 2 = .slice (some ⟨kb, 0, none⟩) n n) (hK : Hid (KMm own W kb n KV M)) (hc : Hid (CodeAt W pc c)) (hx : c[a]? = some x) (ha : a < n) (hn : n ≤ 5000) (hr : In6 r) (hsl : sb < W.heap.size) (hsd : W.cell? ⟨sb, a * 5 + 3, none⟩ = some (.int .i64 (dfn c a))) : Calls Tryd.prog 44 #[.pointer (some ⟨g, 0, none⟩), .int .i64 a, .int .i64 r] W (BhdP W c M a r) := by
  have hg0 := hF.out.lt
  have c0 := hF.out.cell (i := 0) (by omega)
  rw [hF0] at c0
  have c1 := hF.out.cell (i := 1) (by omega)
  rw [hF1] at c1
  have HX := Lib.hid hx
  have HAHD : Hid (∀ X, Below W.heap.size W X → ∀ q, In6 q → Calls Tryd.prog 23 #[.pointer (some ⟨g, 0, none⟩), .int .i64 a, .int .i64 q] X (AhdP X M a q)) := Lib.hid fun X hX q hq => ahead_c (Lib.hid (hF.out.stay hX)) hFk (Lib.hid (hK.out.stay hX)) ha hn hq
  obtain ⟨d, hd⟩ : ∃ d, dfn c a = d := ⟨_, rfl⟩
  rw [hd] at hsd
  have HD := Lib.hid hd
  clear hd
  by_cases hdr : r = d
  · have hb : (r != d) = false := by simp [hdr]
    have HDR : Hid (dfn c a = r) := Lib.hid (HD.out.trans hdr.symm)
    obtain ⟨gc, oc, ep, hgc, hat7, hok⟩ := hc.out a x hx
    have HOK : Hid (In6 x.o ∧ In6 x.d ∧ In6 x.a ∧ In6 x.b) := Lib.hid ⟨hok.2.1, hok.2.2.1, hok.2.2.2.1, hok.2.2.2.2.1⟩
    have k0 := hat7.k
    have k1 := hat7.o
    have k2 := hat7.d
    have k3 := hat7.a
    have k4 := hat7.b
    have k5 := hat7.n
    have k6 := hat7.t
    subst ep
    clear hat7 hok hx hdr
    go_enter Tryd.func44, Tryd.ntmps44
    go_upto_region 4 with (fail)
    refine name_world ?_
    intro V1 hV1
    obtain ⟨m, hm⟩ : ∃ m, W.heap.size = m := ⟨_, rfl⟩
    have HI : Hid (Ib V1 m (.int .i64 x.k) (.int .i64 x.o) (.int .i64 x.d) (.int .i64 x.a) (.int .i64 x.b) (.int .i64 x.n) (.int .i64 x.t)) := Lib.hid (by rw [hV1]; exact Ib.new hm.symm _ _ _ _ _ _ _)
    have HB1 : Hid (Below W.heap.size W V1) := Lib.hid (by rw [hV1]; exact below1 _ _)
    obtain ⟨bm, y0, y1, y2, y3, y4, y5, y6, -⟩ := HI.out.facts
    try rw [hm]
    clear hV1 k0 k1 k2 k3 k4 k5 k6
    go_upto_region 5 with (go_at_call 23; go_loud ((with_reducible refine (HAHD.out _ HB1.out _ HOK.out.2.2.1).mono ?_); rintro e2 w2 ⟨rfl, hb2⟩; have HB2 := Lib.hid (HB1.out.trans (hb2.mono HB1.out.size)); have HI2 := Lib.hid (HI.out.stay hb2); clear hb2))
    clear y0 y1 y2 y3 y4 y5 y6 bm
    obtain ⟨bm, y0, y1, y2, y3, y4, y5, y6, -⟩ := HI2.out.facts
    go_upto_region 6 with (go_at_call 23; (with_reducible refine (HAHD.out _ HB2.out _ HOK.out.2.2.2).mono ?_); rintro e3 w3 ⟨rfl, hb3⟩; have HB3 := Lib.hid (HB2.out.trans (hb3.mono HB2.out.size)); have HI3 := Lib.hid (HI2.out.stay hb3); clear hb3)
    clear y0 y1 y2 y3 y4 y5 y6 bm
    obtain ⟨bm, y0, y1, y2, y3, y4, y5, y6, -⟩ := HI3.out.facts
    go_upto_region 7 with (go_at_call 23; (with_reducible refine (HAHD.out _ HB3.out _ HOK.out.2.1).mono ?_); rintro e4 w4 ⟨rfl, hb4⟩; have HB4 := Lib.hid (HB3.out.trans (hb4.mono HB3.out.size)); have HI4 := Lib.hid (HI3.out.stay hb4); clear hb4)
    clear y0 y1 y2 y3 y4 y5 y6 bm
    obtain ⟨bm, y0, y1, y2, y3, y4, y5, y6, -⟩ := HI4.out.facts
    have HBX : Hid (bX c M a r = vl (Xv M a) x) := Lib.hid (bX_yes HX.out HDR.out)
    obtain ⟨za, hza⟩ : ∃ z, kmv M a x.a = z := ⟨_, rfl⟩
    obtain ⟨zb, hzb⟩ : ∃ z, kmv M a x.b = z := ⟨_, rfl⟩
    obtain ⟨zd, hzd⟩ : ∃ z, kmv M a x.d = z := ⟨_, rfl⟩
    have HA : Hid (Xv M a x.a = if za.2 = true then some za.1 else none) := Lib.hid (by rw [kmv_x, hza])
    have HBB : Hid (Xv M a x.b = if zb.2 = true then some zb.1 else none) := Lib.hid (by rw [kmv_x, hzb])
    have HDD : Hid (Xv M a x.d = if zd.2 = true then some zd.1 else none) := Lib.hid (by rw [kmv_x, hzd])
    simp only [hza, hzb, hzd]
    obtain ⟨a1, ta⟩ := za
    obtain ⟨b1, tb⟩ := zb
    obtain ⟨d1, td⟩ := zd
    simp only at HA HBB HDD ⊢
    clear hza hzb hzd
    have HEND : Hid (∀ n t, (vl (Xv M a) x = if t = true then some n else none) → ∀ X, Below W.heap.size W X → BhdP W c M a r (.returned (.tuple #[.int .i64 n, .bool t])) X) := Lib.hid fun n t h X hX => ⟨n, t, rfl, by rw [HBX.out, h], hX⟩
    by_cases k0 : x.k = 0
    · rw [k0] at y0
      have hfin := HEND.out (x.n) true (by unfold vl; simp [k0]) _ HB4.out
      go_wp2
      go_ret2
      exact hfin
    have e0 : (x.k == 0) = false := by simp [k0]
    by_cases k1 : x.k = 1
    · rw [k1] at y0
      have hfin := HEND.out (a1) ta (by unfold vl; simp [k1, HA.out]) _ HB4.out
      go_wp2
      go_ret2
      exact hfin
    have e1 : (x.k == 1) = false := by simp [k1]
    by_cases k2 : x.k = 2
    · rw [k2] at y0
      cases ta with
      | false =>
        have hfin := HEND.out (0) false (by unfold vl; simp [k2, HA.out]) _ HB4.out
        go_wp2
        go_ret2
        exact hfin
      | true =>
        cases tb with
        | false =>
          have hfin := HEND.out (0) false (by unfold vl; simp [k2, HA.out, HBB.out]) _ HB4.out
          go_wp2
          go_ret2
          exact hfin
        | true =>
          have HEV : Hid (∀ w, Calls Tryd.prog 62 #[.int .i64 x.o, .int .i64 a1, .int .i64 b1] w fun e w' => e = .returned (.int .i64 (ev x.o a1 b1)) ∧ Below w.heap.size w w') := Lib.hid fun w => eval_any x.o a1 b1 w (In6.wf HOK.out.1)
          have hfin := HEND.out (ev x.o a1 b1) true (by unfold vl; simp [k2, HA.out, HBB.out])
          have HFN := Lib.hid hfin
          clear hfin
          go_wp2_with (go_at_call 62; (with_reducible refine (HEV.out _).mono ?_); rintro e5 w5 ⟨rfl, hb5⟩; have HB5 := Lib.hid (HB4.out.trans (hb5.mono HB4.out.size)); clear hb5)
          go_ret2
          exact HFN.out _ HB5.out
    have e2 : (x.k == 2) = false := by simp [k2]
    by_cases k3 : x.k = 3
    · rw [k3] at y0
      cases ta with
      | true =>
        by_cases a0 : a1 = 0
        · have ea : (a1 != 0) = false := by simp [a0]
          have hfin := HEND.out (d1) td (by unfold vl; simp [k3, HA.out, HDD.out, a0]) _ HB4.out
          go_wp2
          go_ret2
          exact hfin
        · have ea : (a1 != 0) = true := by simp [a0]
          have hfin := HEND.out (b1) tb (by unfold vl; simp [k3, HA.out, HBB.out, a0]) _ HB4.out
          go_wp2
          go_ret2
          exact hfin
      | false =>
        cases tb with
        | false =>
          have hfin := HEND.out (0) false (by unfold vl; simp [k3, HA.out, HBB.out]) _ HB4.out
          go_wp2
          go_ret2
          exact hfin
        | true =>
          cases td with
          | false =>
            have hfin := HEND.out (0) false (by unfold vl; simp [k3, HA.out, HBB.out, HDD.out]) _ HB4.out
            go_wp2
            go_ret2
            exact hfin
          | true =>
            by_cases bd : b1 = d1
            · have ebd : (b1 == d1) = true := by simp [bd]
              have hfin := HEND.out (d1) true (by unfold vl; simp [k3, HA.out, HBB.out, HDD.out, bd]) _ HB4.out
              go_wp2
              go_ret2
              exact hfin
            · have ebd : (b1 == d1) = false := by simp [bd]
              have bd2 : ¬ d1 = b1 := fun e => bd e.symm
              have hfin := HEND.out (0) false (by unfold vl; simp [k3, HA.out, HBB.out, HDD.out, bd2]) _ HB4.out
              go_wp2
              go_ret2
              exact hfin
    have e3 : (x.k == 3) = false := by simp [k3]
    have hfin := HEND.out (0) false (by unfold vl; simp [k0, k1, k2, k3]) _ HB4.out
    go_wp2
    go_ret2
    exact hfin
  · have hb : (r != d) = true := by simp [hdr]
    have HDR : Hid (dfn c a ≠ r) := Lib.hid fun e => hdr (e.symm.trans HD.out)
    go_enter Tryd.func44, Tryd.ntmps44
    go_wp2_with (go_at_call 23; (with_reducible refine (HAHD.out _ (Below.refl _ _) _ hr).mono ?_); rintro e2 w2 ⟨rfl, hb2⟩; have HB2 := Lib.hid hb2; clear hb2)
    go_ret2
    exact ⟨(kmv M a r).1, (kmv M a r).2, rfl, by rw [bX_no HDR.out, kmv_x], HB2.out⟩
end Go.Proofs.YtgdhgipofaaogaaDoor
namespace Go.Proofs.YtgdhgipofaaogaaDoor
open Go Go.RowKit Gm

/-- All that is read of what is known. -/
structure FQ (own : Nat → Ob) (W : World) (g kb sb n cap : Nat) (pc : Option Addr) (F KV : Nat → Value) (M : Km) (c : List Ic) : Prop where
  fv : FV 69 W g 8 F
  f0 : F 0 = .slice pc n cap
  f1 : F 1 = .slice (some ⟨sb, 0, none⟩) n n
  f2 : F 2 = .slice (some ⟨kb, 0, none⟩) n n
  km : KMm own W kb n KV M
  code : CodeAt W pc c
  len : c.length = n
  n5 : n ≤ 5000
  sl : sb < W.heap.size
  sd : ∀ i, i < n → Rc c i → W.cell? ⟨sb, i * 5 + 3, none⟩ = some (.int .i64 (dfn c i))
theorem FQ.stay {own : Nat → Ob} {W X : World} {g kb sb n cap : Nat} {pc : Option Addr} {F KV : Nat → Value} {M : Km} {c : List Ic} (h : FQ own W g kb sb n cap pc F KV M c) (hb : Below W.heap.size W X) : FQ own X g kb sb n cap pc F KV M c :=
  ⟨h.fv.stay hb, h.f0, h.f1, h.f2, h.km.stay hb, h.code.stay hb, h.len, h.n5, Nat.lt_of_lt_of_le h.sl hb.size, fun i hi hr => (hb.cell (p := ⟨sb, _, none⟩) h.sl).trans (h.sd i hi hr)⟩
theorem FQ.ahead {own : Nat → Ob} {W : World} {g kb sb n cap : Nat} {pc : Option Addr} {F KV : Nat → Value} {M : Km} {c : List Ic} (h : FQ own W g kb sb n cap pc F KV M c) {a : Nat} (ha : a < n) {r : Int} (hr : In6 r) : Calls Tryd.prog 23 #[.pointer (some ⟨g, 0, none⟩), .int .i64 a, .int .i64 r] W (AhdP W M a r) := ahead_c (Lib.hid h.fv) h.f2 (Lib.hid h.km) ha h.n5 hr
theorem FQ.behind {own : Nat → Ob} {W : World} {g kb sb n cap : Nat} {pc : Option Addr} {F KV : Nat → Value} {M : Km} {c : List Ic} (h : FQ own W g kb sb n cap pc F KV M c) {a : Nat} (ha : a < n) (hra : Rc c a) {x : Ic} (hx : c[a]? = some x) {r : Int} (hr : In6 r) : Calls Tryd.prog 44 #[.pointer (some ⟨g, 0, none⟩), .int .i64 a, .int .i64 r] W (BhdP W c M a r) := behind_c (Lib.hid h.fv) h.f0 h.f1 h.f2 (Lib.hid h.km) (Lib.hid h.code) hx ha h.n5 hr h.sl (h.sd a ha hra)
set_option maxRecDepth 100000 in
set_option maxHeartbeats 4000000 in
theorem picked_c {own : Nat → Ob} {W : World} {g kb sb n cap a : Nat} {pc : Option Addr} {F KV : Nat → Value} {M : Km} {c : List Ic} {x : Ic} (hQ : Hid (FQ own W g kb sb n cap pc F KV M c)) (ha : a < n) (hx : c[a]? = some x) (hk3 : x.k = 3) : Calls Tryd.prog 50 #[.pointer (some ⟨g, 0, none⟩), .int .i64 a] W (OneP W (oneM (Xv M a) x a)) := by
  have HK3 := Lib.hid hk3
  clear hk3
  have hF := hQ.out.fv
  have hn5 := hQ.out.n5
  have hg0 := hF.lt
  have c0 := hF.cell (i := 0) (by omega)
  rw [hQ.out.f0] at c0
  obtain ⟨gc, oc, ep, hgc, hat7, hok⟩ := hQ.out.code a x hx
  have HOK : Hid (In6 x.d ∧ In6 x.a ∧ In6 x.b) := Lib.hid ⟨hok.2.2.1, hok.2.2.2.1, hok.2.2.2.2.1⟩
  have k0 := hat7.k
  have k1 := hat7.o
  have k2 := hat7.d
  have k3 := hat7.a
  have k4 := hat7.b
  have k5 := hat7.n
  have k6 := hat7.t
  have HX := Lib.hid hx
  subst ep
  have hgW := hgc
  clear hat7 hok hx hF
  go_enter Tryd.func50, Tryd.ntmps50
  go_upto_region 2 with (fail)
  refine name_world ?_
  intro V1 hV1
  obtain ⟨m, hm⟩ : ∃ m, W.heap.size = m := ⟨_, rfl⟩
  have HI : Hid (Ib V1 (m + 1) (.int .i64 x.k) (.int .i64 x.o) (.int .i64 x.d) (.int .i64 x.a) (.int .i64 x.b) (.int .i64 x.n) (.int .i64 x.t)) := Lib.hid (by rw [hV1]; exact Ib.new (by simp; omega) _ _ _ _ _ _ _)
  have HZ : Hid (Ib V1 m (.int .i64 0) (.int .i64 0) (.int .i64 0) (.int .i64 0) (.int .i64 0) (.int .i64 0) (.int .i64 0)) := Lib.hid (by rw [hV1]; exact (Ib.new hm.symm _ _ _ _ _ _ _).alloc _)
  have HB1 : Hid (Below W.heap.size W V1) := Lib.hid (by rw [hV1]; exact below2 _ _ _)
  have hWm : W.heap.size ≤ m := by omega
  try rw [hm]
  obtain ⟨bm, y0, y1, y2, y3, y4, y5, y6, -⟩ := HI.out.facts
  obtain ⟨bz, z0, z1, z2, z3, z4, z5, z6, f0, f1, f2, f3, f4, f5, f6⟩ := HZ.out.facts
  clear hV1 k0 k1 k2 k3 k4 k5 k6
  have HAH : Hid (∀ X, Below W.heap.size W X → ∀ q, In6 q → Calls Tryd.prog 23 #[.pointer (some ⟨g, 0, none⟩), .int .i64 a, .int .i64 q] X (AhdP X M a q)) := Lib.hid fun X hX q hq => (hQ.out.stay hX).ahead ha hq
  go_upto_region 3 with (go_at_call 23; (with_reducible refine (HAH.out _ HB1.out _ HOK.out.2.1).mono ?_); rintro e2 w2 ⟨rfl, hb2⟩; have HB2 := Lib.hid (HB1.out.trans (hb2.mono HB1.out.size)); have HI2 := Lib.hid (HI.out.stay hb2); have HZ2 := Lib.hid (HZ.out.stay hb2); clear hb2)
  clear y0 y1 y2 y3 y4 y5 y6 bm z0 z1 z2 z3 z4 z5 z6 f0 f1 f2 f3 f4 f5 f6 bz
  obtain ⟨bm, y0, y1, y2, y3, y4, y5, y6, -⟩ := HI2.out.facts
  obtain ⟨bz, z0, z1, z2, z3, z4, z5, z6, f0, f1, f2, f3, f4, f5, f6⟩ := HZ2.out.facts
  obtain ⟨za, hza⟩ : ∃ z, kmv M a x.a = z := ⟨_, rfl⟩
  have HA : Hid (Xv M a x.a = if za.2 = true then some za.1 else none) := Lib.hid (by rw [kmv_x, hza])
  simp only [hza]
  obtain ⟨a1, ta⟩ := za
  simp only at HA ⊢
  clear hza
  cases ta with
  | false =>
    have E : Hid (oneM (Xv M a) x a = x) := Lib.hid (by unfold oneM vl; simp [HK3.out, HA.out])
    go_wp2
    exact bodyPost_ret (run_ib (HZ2.out.all _ _ _ _ _ _ _) rfl _ rfl) rfl ⟨(by first | (rw [E.out]; done) | (rw [E.out]; simp [HK3.out, HA.out])), below_set (below_set (below_set (below_set (below_set (below_set (below_set HB2.out hWm _ _) hWm _ _) hWm _ _) hWm _ _) hWm _ _) hWm _ _) hWm _ _⟩
  | true =>
    by_cases a0 : a1 = 0
    · have ea : (a1 == 0) = true := by simp [a0]
      have E : Hid (oneM (Xv M a) x a = ⟨1, 0, x.d, x.d, 0, 0, 0⟩) := Lib.hid (by unfold oneM vl; simp [HK3.out, HA.out, a0])
      go_wp2
      exact bodyPost_ret (run_ib (HZ2.out.all _ _ _ _ _ _ _) rfl _ rfl) rfl ⟨(by first | (rw [E.out]; done) | (rw [E.out]; simp [HK3.out, HA.out, a0])), below_set (below_set (below_set (below_set (below_set (below_set (below_set HB2.out hWm _ _) hWm _ _) hWm _ _) hWm _ _) hWm _ _) hWm _ _) hWm _ _⟩
    · have ea : (a1 == 0) = false := by simp [a0]
      go_upto_region 8 with (go_at_call 23; (with_reducible refine (HAH.out _ HB2.out _ HOK.out.2.2).mono ?_); rintro e3 w3 ⟨rfl, hb3⟩; have HB3 := Lib.hid (HB2.out.trans (hb3.mono HB2.out.size)); have HI3 := Lib.hid (HI2.out.stay hb3); have HZ3 := Lib.hid (HZ2.out.stay hb3); clear hb3)
      clear y0 y1 y2 y3 y4 y5 y6 bm z0 z1 z2 z3 z4 z5 z6 f0 f1 f2 f3 f4 f5 f6 bz
      obtain ⟨bm, y0, y1, y2, y3, y4, y5, y6, -⟩ := HI3.out.facts
      obtain ⟨bz, z0, z1, z2, z3, z4, z5, z6, f0, f1, f2, f3, f4, f5, f6⟩ := HZ3.out.facts
      obtain ⟨zb, hzb⟩ : ∃ z, kmv M a x.b = z := ⟨_, rfl⟩
      have HBB : Hid (Xv M a x.b = if zb.2 = true then some zb.1 else none) := Lib.hid (by rw [kmv_x, hzb])
      simp only [hzb]
      obtain ⟨b1, tb⟩ := zb
      simp only at HBB ⊢
      clear hzb
      cases tb with
      | true =>
        have E : Hid (oneM (Xv M a) x a = ⟨0, 0, x.d, 0, 0, b1, 0⟩) := Lib.hid (by unfold oneM vl; simp [HK3.out, HA.out, HBB.out, a0])
        go_wp2
        exact bodyPost_ret (run_ib (HZ3.out.all _ _ _ _ _ _ _) rfl _ rfl) rfl ⟨(by first | (rw [E.out]; done) | (rw [E.out]; simp [HK3.out, HA.out, HBB.out, a0])), below_set (below_set (below_set (below_set (below_set (below_set (below_set HB3.out hWm _ _) hWm _ _) hWm _ _) hWm _ _) hWm _ _) hWm _ _) hWm _ _⟩
      | false =>
        have E : Hid (oneM (Xv M a) x a = ⟨1, 0, x.d, x.b, 0, 0, 0⟩) := Lib.hid (by unfold oneM vl; simp [HK3.out, HA.out, HBB.out, a0])
        go_wp2
        exact bodyPost_ret (run_ib (HZ3.out.all _ _ _ _ _ _ _) rfl _ rfl) rfl ⟨(by first | (rw [E.out]; done) | (rw [E.out]; simp [HK3.out, HA.out, HBB.out, a0])), below_set (below_set (below_set (below_set (below_set (below_set (below_set HB3.out hWm _ _) hWm _ _) hWm _ _) hWm _ _) hWm _ _) hWm _ _) hWm _ _⟩
set_option maxRecDepth 100000 in
set_option maxHeartbeats 4000000 in
theorem folded_c {own : Nat → Ob} {W : World} {g kb sb n cap a : Nat} {pc : Option Addr} {F KV : Nat → Value} {M : Km} {c : List Ic} {x : Ic} (hQ : Hid (FQ own W g kb sb n cap pc F KV M c)) (ha : a < n) (hx : c[a]? = some x) (hra : Rc c a) (hko : Okc c) : Calls Tryd.prog 26 #[.pointer (some ⟨g, 0, none⟩), .int .i64 a] W (OneP W (oneM (Xv M a) x a)) := by
  have HPK : Hid (x.k = 3 → ∀ X, Below W.heap.size W X → Calls Tryd.prog 50 #[.pointer (some ⟨g, 0, none⟩), .int .i64 a] X (OneP X (oneM (Xv M a) x a))) := Lib.hid fun hk X hX => picked_c (Lib.hid (hQ.out.stay hX)) ha hx hk
  have HBH : Hid (∀ X, Below W.heap.size W X → ∀ q, In6 q → Calls Tryd.prog 44 #[.pointer (some ⟨g, 0, none⟩), .int .i64 a, .int .i64 q] X (BhdP X c M a q)) := Lib.hid fun X hX q hq => (hQ.out.stay hX).behind ha hra hx hq
  have HVB : Hid ((x.k = 1 ∨ x.k = 2) → bX c M a x.d = vl (Xv M a) x) := Lib.hid fun hk => by
    have hd := (hko a x hx).2.1 (by omega)
    exact bX_yes hx ((dfn_d hx hko hd).2 ⟨by omega, rfl⟩)
  have hF := hQ.out.fv
  have hn5 := hQ.out.n5
  have hg0 := hF.lt
  have c0 := hF.cell (i := 0) (by omega)
  rw [hQ.out.f0] at c0
  obtain ⟨gc, oc, ep, hgc, hat7, hok⟩ := hQ.out.code a x hx
  have HOK : Hid (In6 x.d ∧ In6 x.a ∧ In6 x.b) := Lib.hid ⟨hok.2.2.1, hok.2.2.2.1, hok.2.2.2.2.1⟩
  have k0 := hat7.k
  have k1 := hat7.o
  have k2 := hat7.d
  have k3 := hat7.a
  have k4 := hat7.b
  have k5 := hat7.n
  have k6 := hat7.t
  have HX := Lib.hid hx
  subst ep
  have hgW := hgc
  clear hat7 hok hx hF
  go_enter Tryd.func26, Tryd.ntmps26
  go_upto_region 2 with (fail)
  refine name_world ?_
  intro V1 hV1
  obtain ⟨m, hm⟩ : ∃ m, W.heap.size = m := ⟨_, rfl⟩
  have HI : Hid (Ib V1 (m + 1) (.int .i64 x.k) (.int .i64 x.o) (.int .i64 x.d) (.int .i64 x.a) (.int .i64 x.b) (.int .i64 x.n) (.int .i64 x.t)) := Lib.hid (by rw [hV1]; exact Ib.new (by simp; omega) _ _ _ _ _ _ _)
  have HZ : Hid (Ib V1 m (.int .i64 0) (.int .i64 0) (.int .i64 0) (.int .i64 0) (.int .i64 0) (.int .i64 0) (.int .i64 0)) := Lib.hid (by rw [hV1]; exact (Ib.new hm.symm _ _ _ _ _ _ _).alloc _)
  have HB1 : Hid (Below W.heap.size W V1) := Lib.hid (by rw [hV1]; exact below2 _ _ _)
  have hWm : W.heap.size ≤ m := by omega
  try rw [hm]
  obtain ⟨bm, y0, y1, y2, y3, y4, y5, y6, -⟩ := HI.out.facts
  obtain ⟨bz, z0, z1, z2, z3, z4, z5, z6, f0, f1, f2, f3, f4, f5, f6⟩ := HZ.out.facts
  clear hV1 k0 k1 k2 k3 k4 k5 k6
  have HAH : Hid (∀ X, Below W.heap.size W X → ∀ q, In6 q → Calls Tryd.prog 23 #[.pointer (some ⟨g, 0, none⟩), .int .i64 a, .int .i64 q] X (AhdP X M a q)) := Lib.hid fun X hX q hq => (hQ.out.stay hX).ahead ha hq
  by_cases k1 : x.k = 1
  · rw [k1] at y0
    have HV := Lib.hid (HVB.out (by omega))
    go_upto_region 6 with (go_at_call 44; (with_reducible refine (HBH.out _ HB1.out _ HOK.out.1).mono ?_); rintro e2 w2 ⟨b1, tb, rfl, hv2, hb2⟩; have HV2 := Lib.hid hv2; have HB2 := Lib.hid (HB1.out.trans (hb2.mono HB1.out.size)); have HI2 := Lib.hid (HI.out.stay hb2); have HZ2 := Lib.hid (HZ.out.stay hb2); clear hb2 hv2)
    clear y0 y1 y2 y3 y4 y5 y6 bm z0 z1 z2 z3 z4 z5 z6 f0 f1 f2 f3 f4 f5 f6 bz
    obtain ⟨bm, y0, y1, y2, y3, y4, y5, y6, -⟩ := HI2.out.facts
    obtain ⟨bz, z0, z1, z2, z3, z4, z5, z6, f0, f1, f2, f3, f4, f5, f6⟩ := HZ2.out.facts
    have HVV : Hid (vl (Xv M a) x = if tb = true then some b1 else none) := Lib.hid (by rw [← HV.out, HV2.out])
    cases tb with
    | true =>
      have E : Hid (oneM (Xv M a) x a = ⟨0, 0, x.d, 0, 0, b1, 0⟩) := Lib.hid (by unfold oneM; simp [k1, HVV.out])
      go_wp2
      exact bodyPost_ret (run_ib (HZ2.out.all _ _ _ _ _ _ _) rfl _ rfl) rfl ⟨(by rw [E.out]), below_set (below_set (below_set (below_set (below_set (below_set (below_set HB2.out hWm _ _) hWm _ _) hWm _ _) hWm _ _) hWm _ _) hWm _ _) hWm _ _⟩
    | false =>
      have E : Hid (oneM (Xv M a) x a = x) := Lib.hid (by unfold oneM; simp [k1, HVV.out])
      go_wp2
      exact bodyPost_ret (run_ib (HZ2.out.all _ _ _ _ _ _ _) rfl _ rfl) rfl ⟨(by first | (rw [E.out]; done) | (rw [E.out]; simp [k1])), below_set (below_set (below_set (below_set (below_set (below_set (below_set HB2.out hWm _ _) hWm _ _) hWm _ _) hWm _ _) hWm _ _) hWm _ _) hWm _ _⟩
  have e1 : (x.k == 1) = false := by simp [k1]
  by_cases k2 : x.k = 2
  · rw [k2] at y0
    have HV := Lib.hid (HVB.out (by omega))
    go_upto_region 6 with (go_at_call 44; (with_reducible refine (HBH.out _ HB1.out _ HOK.out.1).mono ?_); rintro e2 w2 ⟨b1, tb, rfl, hv2, hb2⟩; have HV2 := Lib.hid hv2; have HB2 := Lib.hid (HB1.out.trans (hb2.mono HB1.out.size)); have HI2 := Lib.hid (HI.out.stay hb2); have HZ2 := Lib.hid (HZ.out.stay hb2); clear hb2 hv2)
    clear y0 y1 y2 y3 y4 y5 y6 bm z0 z1 z2 z3 z4 z5 z6 f0 f1 f2 f3 f4 f5 f6 bz
    obtain ⟨bm, y0, y1, y2, y3, y4, y5, y6, -⟩ := HI2.out.facts
    obtain ⟨bz, z0, z1, z2, z3, z4, z5, z6, f0, f1, f2, f3, f4, f5, f6⟩ := HZ2.out.facts
    have HVV : Hid (vl (Xv M a) x = if tb = true then some b1 else none) := Lib.hid (by rw [← HV.out, HV2.out])
    cases tb with
    | true =>
      have E : Hid (oneM (Xv M a) x a = ⟨0, 0, x.d, 0, 0, b1, 0⟩) := Lib.hid (by unfold oneM; simp [k2, HVV.out])
      go_wp2
      exact bodyPost_ret (run_ib (HZ2.out.all _ _ _ _ _ _ _) rfl _ rfl) rfl ⟨(by rw [E.out]), below_set (below_set (below_set (below_set (below_set (below_set (below_set HB2.out hWm _ _) hWm _ _) hWm _ _) hWm _ _) hWm _ _) hWm _ _) hWm _ _⟩
    | false =>
      have E : Hid (oneM (Xv M a) x a = x) := Lib.hid (by unfold oneM; simp [k2, HVV.out])
      go_wp2
      exact bodyPost_ret (run_ib (HZ2.out.all _ _ _ _ _ _ _) rfl _ rfl) rfl ⟨(by first | (rw [E.out]; done) | (rw [E.out]; simp [k2])), below_set (below_set (below_set (below_set (below_set (below_set (below_set HB2.out hWm _ _) hWm _ _) hWm _ _) hWm _ _) hWm _ _) hWm _ _) hWm _ _⟩
  have e2 : (x.k == 2) = false := by simp [k2]
  by_cases k3 : x.k = 3
  · rw [k3] at y0
    have HP := Lib.hid (HPK.out k3)
    go_wp2_with (go_at_call 50; (with_reducible refine (HP.out _ HB1.out).mono ?_); rintro e2 w2 ⟨rfl, hb2⟩; have HB2 := Lib.hid (HB1.out.trans (hb2.mono HB1.out.size)); have HZ2 := Lib.hid (HZ.out.stay hb2); obtain ⟨bz2, u0, u1, u2, u3, u4, u5, u6, v0, v1, v2, v3, v4, v5, v6⟩ := HZ2.out.facts; clear hb2)
    exact bodyPost_ret (run_ib (HZ2.out.all _ _ _ _ _ _ _) rfl _ rfl) rfl ⟨rfl, below_set (below_set (below_set (below_set (below_set (below_set (below_set HB2.out hWm _ _) hWm _ _) hWm _ _) hWm _ _) hWm _ _) hWm _ _) hWm _ _⟩
  have e3 : (x.k == 3) = false := by simp [k3]
  by_cases k7 : x.k = 7
  · rw [k7] at y0
    go_upto_region 12 with (go_at_call 23; (with_reducible refine (HAH.out _ HB1.out _ HOK.out.2.1).mono ?_); rintro e2 w2 ⟨rfl, hb2⟩; have HB2 := Lib.hid (HB1.out.trans (hb2.mono HB1.out.size)); have HI2 := Lib.hid (HI.out.stay hb2); have HZ2 := Lib.hid (HZ.out.stay hb2); clear hb2)
    clear y0 y1 y2 y3 y4 y5 y6 bm z0 z1 z2 z3 z4 z5 z6 f0 f1 f2 f3 f4 f5 f6 bz
    obtain ⟨bm, y0, y1, y2, y3, y4, y5, y6, -⟩ := HI2.out.facts
    obtain ⟨bz, z0, z1, z2, z3, z4, z5, z6, f0, f1, f2, f3, f4, f5, f6⟩ := HZ2.out.facts
    obtain ⟨za, hza⟩ : ∃ z, kmv M a x.a = z := ⟨_, rfl⟩
    have HA : Hid (Xv M a x.a = if za.2 = true then some za.1 else none) := Lib.hid (by rw [kmv_x, hza])
    simp only [hza]
    obtain ⟨a1, ta⟩ := za
    simp only at HA ⊢
    clear hza
    cases ta with
    | false =>
      have E : Hid (oneM (Xv M a) x a = x) := Lib.hid (by unfold oneM vl; simp [k7, HA.out])
      go_wp2
      exact bodyPost_ret (run_ib (HZ2.out.all _ _ _ _ _ _ _) rfl _ rfl) rfl ⟨(by first | (rw [E.out]; done) | (rw [E.out]; simp [k7, HA.out])), below_set (below_set (below_set (below_set (below_set (below_set (below_set HB2.out hWm _ _) hWm _ _) hWm _ _) hWm _ _) hWm _ _) hWm _ _) hWm _ _⟩
    | true =>
      by_cases a0 : a1 = 0
      · have ea : (a1 == 0) = true := by simp [a0]
        have E : Hid (oneM (Xv M a) x a = ⟨6, 0, 0, 0, 0, 0, x.t⟩) := Lib.hid (by unfold oneM vl; simp [k7, HA.out, a0])
        go_wp2
        exact bodyPost_ret (run_ib (HZ2.out.all _ _ _ _ _ _ _) rfl _ rfl) rfl ⟨(by first | (rw [E.out]; done) | (rw [E.out]; simp [k7, HA.out, a0])), below_set (below_set (below_set (below_set (below_set (below_set (below_set HB2.out hWm _ _) hWm _ _) hWm _ _) hWm _ _) hWm _ _) hWm _ _) hWm _ _⟩
      · have ea : (a1 == 0) = false := by simp [a0]
        have E : Hid (oneM (Xv M a) x a = ⟨6, 0, 0, 0, 0, 0, (a : Int) + 1⟩) := Lib.hid (by unfold oneM vl; simp [k7, HA.out, a0])
        go_wp2
        exact bodyPost_ret (run_ib (HZ2.out.all _ _ _ _ _ _ _) rfl _ rfl) rfl ⟨(by first | (rw [E.out]; done) | (rw [E.out]; simp [k7, HA.out, a0])), below_set (below_set (below_set (below_set (below_set (below_set (below_set HB2.out hWm _ _) hWm _ _) hWm _ _) hWm _ _) hWm _ _) hWm _ _) hWm _ _⟩
  have e7 : (x.k == 7) = false := by simp [k7]
  have E : Hid (oneM (Xv M a) x a = x) := Lib.hid (by unfold oneM vl; simp [k1, k2, k3, k7])
  go_wp2
  exact bodyPost_ret (run_ib (HZ.out.all _ _ _ _ _ _ _) rfl _ rfl) rfl ⟨(by first | (rw [E.out]; done) | (rw [E.out]; simp [k1, k2, k3, k7])), below_set (below_set (below_set (below_set (below_set (below_set (below_set HB1.out hWm _ _) hWm _ _) hWm _ _) hWm _ _) hWm _ _) hWm _ _) hWm _ _⟩
end Go.Proofs.YtgdhgipofaaogaaDoor
