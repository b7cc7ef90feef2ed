/- Loops, those within others first, each counted as one from then on: plain mathematics. -/
import Derived.Test.YtacgfjcdfgdpjaaDoorGa
import Derived.Test.YtacgfjcdfgdpjaaDoorGb
namespace Go.Proofs.YtacgfjcdfgdpjaaDoor.Gm

/-- x is in the loop that begins at h. -/
def In (E : Nat → Nat → Prop) (h x : Nat) : Prop := ∃ j, E j h ∧ Dom E h j ∧ (x = h ∨ Way E (fun z => z ≠ h) x j)
/-- A loop begins at h. -/
def Hd (E : Nat → Nat → Prop) (h : Nat) : Prop := ∃ j, E j h ∧ Dom E h j
section
variable {m : Nat} {E : Nat → Nat → Prop} {par : Nat → Nat} {g h x y : Nat}
theorem Dom.here (D : Dfs m E par) {d v : Nat} (h : Dom E d v) (hv : v < m) (A : Nat → Prop) (hw : Way E A 0 v) : A d := by
  refine Classical.byContradiction fun hn => h (hw.mono fun z hz e => hn (e ▸ hz))
theorem In.head (k : In E h x) : In E h h := by
  obtain ⟨j, a, b, _⟩ := k
  exact ⟨j, a, b, .inl rfl⟩
theorem Hd.in (k : Hd E h) : In E h h := by
  obtain ⟨j, a, b⟩ := k
  exact ⟨j, a, b, .inl rfl⟩
theorem In.hd (k : In E h x) : Hd E h := by
  obtain ⟨j, a, b, _⟩ := k
  exact ⟨j, a, b⟩
theorem In.lt (D : Dfs m E par) (k : In E h x) : x < m ∧ h < m := by
  obtain ⟨j, a, _, c⟩ := k
  refine ⟨?_, (D.lt a).2⟩
  rcases c with rfl | c
  · exact (D.lt a).2
  · cases c with
    | one _ => exact (D.lt a).1
    | cons _ e _ => exact (D.lt e).1
theorem In.dom (D : Dfs m E par) (k : In E h x) : Dom E h x := by
  obtain ⟨j, _, b, c⟩ := k
  rcases c with rfl | c
  · exact Dom.self
  · exact fun hw => b (hw.app c)
theorem In.le (D : Dfs m E par) (k : In E h x) : h ≤ x := D.le ((k.dom D).anc D (k.lt D).1) (k.lt D).1
theorem In.pred (k : In E h x) (hne : x ≠ h) (e : E y x) : In E h y := by
  obtain ⟨j, a, b, c⟩ := k
  refine ⟨j, a, b, ?_⟩
  by_cases hy : y = h
  · exact .inl hy
  · exact .inr (.cons hy e (c.resolve_left hne))
/-- A way to a place, from its last time over h on. -/
theorem Way.since {A : Nat → Prop} (k : Way E A x y) (hx : ∀ z, A z → z = g ∨ z ≠ g) : Way E (fun z => z ≠ g) x y ∨ (y = g) ∨ ∃ z, E g z ∧ Way E (fun z => z ≠ g) z y := by
  induction k with
  | one ha =>
    rcases hx _ ha with h1 | h1
    · exact .inr (.inl h1)
    · exact .inl (.one h1)
  | cons ha e k ih =>
    rcases ih with h1 | h1
    · rcases hx _ ha with rfl | h2
      · exact .inr (.inr ⟨_, e, h1⟩)
      · exact .inl (.cons h2 e h1)
    · exact .inr h1
/-- A way that isn't one without g goes over g. -/
theorem Way.over {A : Nat → Prop} (k : Way E A x y) (hn : ¬ Way E (fun z => z ≠ g) x y) : Way E A g y := by
  induction k with
  | @one a ha =>
    by_cases e : a = g
    · rw [e] at ha ⊢; exact .one ha
    · exact absurd (.one e) hn
  | @cons a p c ha e k ih =>
    by_cases e1 : a = g
    · rw [e1] at ha e; exact .cons ha e k
    · exact ih fun k2 => hn (.cons e1 e k2)
/-- Of two loops that have a place, one has all of the other. -/
theorem In.nest (D : Dfs m E par) (kg : In E g x) (kh : In E h x) (hlt : h < g) (ky : In E g y) : In E h y := by
  have hxm := (kg.lt D).1
  have dg := kg.dom D
  have dh := kh.dom D
  -- h is above g
  have hgm := (kg.lt D).2
  have ng : ¬ Dom E g h := fun k => by
    have := D.le (k.anc D (kh.lt D).2) (kh.lt D).2
    omega
  have w0h : Way E (fun z => z ≠ g) 0 h := Classical.byContradiction ng
  have dhg : Dom E h g := fun hw => by
    -- to g without h, on to x without h: from g's last time on
    have full := D.reach hxm
    rcases Way.since (g := h) full (fun z _ => Classical.em _) with h1 | h1 | ⟨z, e, h1⟩
    · exact dh h1
    · subst h1; exact dg w0h
    · -- h → z .. x without h; g lies on it, else around g
      by_cases hz : Way E (fun z => z ≠ g) z x
      · exact dg (w0h.jump e hz)
      · exact dh (hw.app (h1.over hz))
  obtain ⟨jg, eg, dgj, cy⟩ := ky
  obtain ⟨jh, eh, dhj, cx⟩ := kh
  refine ⟨jh, eh, dhj, ?_⟩
  have hxh : x ≠ h := fun e => ng (e ▸ dg)
  have cx := cx.resolve_left hxh
  -- from g on to x without h
  have gx : Way E (fun z => z ≠ h) g x := by
    have full := D.reach hxm
    rcases Way.since (g := g) full (fun z _ => Classical.em _) with h1 | h1 | ⟨z, e, h1⟩
    · exact absurd h1 dg
    · rw [h1]; exact .one (by omega)
    · -- g → z .. x without g; were h on it, x could be come to without g
      by_cases hz : Way E (fun z => z ≠ h) z x
      · exact .cons (by omega) e hz
      · exact absurd (w0h.app (h1.over hz)) dg
  by_cases hyg : y = g
  · rw [hyg]
    exact .inr (gx.app cx)
  · have cy := cy.resolve_left hyg
    by_cases hyh : Way E (fun z => z ≠ h) y jg
    · exact .inr (hyh.app (.cons hyh.last eg (gx.app cx)))
    · exact absurd (w0h.app (cy.over hyh)) dgj

/-- What the loops from h on are found to be; W waits. -/
structure Nst (m : Nat) (E : Nat → Nat → Prop) (ar : Nat → Option Nat) (h : Nat) (W : Nat → Prop) : Prop where
  done : ∀ g x, g < m → x < m → h < g → (Und ar g x ↔ g = x ∨ In E g x)
  ar_lt : ∀ x g, x < m → ar x = some g → g < x ∧ h ≤ g
  mine : ∀ x, x < m → ar x = some h → In E h x
  pred : ∀ v y, v < m → ar v = some h → E y v → Und ar h y ∨ W y
  src : ∀ j, E j h → Dom E h j → Und ar h j ∨ W j
  wait : ∀ y, W y → In E h y
/-- One more is put in. -/
theorem Nst.put (D : Dfs m E par) {ar ar' : Nat → Option Nat} {W W' : Nat → Prop} {v : Nat} (N : Nst m E ar h W) (hy : W y) (hv : Und ar v y) (hr : ar v = none) (hne : v ≠ h)
    (ha : ∀ x, ar' x = if x = v then some h else ar x) (hW : ∀ z, W z → z = y ∨ W' z) (hW2 : ∀ z, W' z → W z ∨ E z v) (hW3 : ∀ z, E z v → W' z) : Nst m E ar' h W' := by
  have hym := (N.wait y hy).lt D
  have hu : ∀ v p, v < m → ar v = some p → p < v := fun v p hv e => (N.ar_lt v p hv e).1
  have hvy := Und.le hu hv hym.1
  have hvm : v < m := by omega
  have hvh : v = y ∨ h < v := by
    rcases hv.cases' with e | ⟨p, e1, e2⟩
    · exact .inl e
    · by_cases e : v = y
      · exact .inl e
      · obtain ⟨x, a, b, _⟩ := Und.child hu hv hym.1 e
        have := N.ar_lt x v a b
        exact .inr (by omega)
  have iv : In E h v := by
    rcases hvh with e | e
    · rw [e]; exact N.wait y hy
    · rcases (N.done v y hvm hym.1 e).1 hv with e1 | e1
      · rw [e1]; exact N.wait y hy
      · exact e1.nest D (N.wait y hy) e e1.head
  have hlt : h < v := by have := iv.le D; omega
  have hh : ar h = none := by
    cases e : ar h with
    | none => rfl
    | some g => have := N.ar_lt h g hym.2 e; omega
  have up : ∀ {g x}, Und ar g x → Und ar' g x := by
    intro g x k
    induction k with
    | refl => exact .refl _
    | @step p x e k ih =>
      by_cases e1 : x = v
      · rw [e1, hr] at e; cases e
      · exact .step (by rw [ha, if_neg e1]; exact e) ih
  have dn : ∀ {g x}, Und ar' g x → Und ar g x ∨ (g = h ∧ Und ar v x) := by
    intro g x k
    induction k with
    | refl => exact .inl (.refl _)
    | @step p x e k ih =>
      rw [ha] at e
      by_cases e1 : x = v
      · rw [if_pos e1] at e
        cases e
        rcases ih with k | ⟨k, _⟩
        · rcases k.cases' with k | ⟨q, k, _⟩
          · exact .inr ⟨k, e1 ▸ .refl _⟩
          · rw [hh] at k; cases k
        · exact .inr ⟨k, e1 ▸ .refl _⟩
      · rw [if_neg e1] at e
        rcases ih with k | ⟨k, k2⟩
        · exact .inl (.step e k)
        · exact .inr ⟨k, .step e k2⟩
  have vh : Und ar' h v := .step (by rw [ha, if_pos rfl]) (.refl _)
  refine ⟨fun g x hg hx hgh => ?_, fun x g hx e => ?_, fun x hx e => ?_, fun w z hw e e2 => ?_, fun j e1 e2 => ?_, fun z hz => ?_⟩
  · rw [← N.done g x hg hx hgh]
    refine ⟨fun k => ?_, up⟩
    rcases dn k with k | ⟨k, _⟩
    · exact k
    · omega
  · rw [ha] at e
    by_cases e1 : x = v
    · rw [if_pos e1] at e
      cases e
      omega
    · rw [if_neg e1] at e
      exact N.ar_lt x g hx e
  · rw [ha] at e
    by_cases e1 : x = v
    · rw [e1]; exact iv
    · rw [if_neg e1] at e
      exact N.mine x hx e
  · rw [ha] at e
    by_cases e1 : w = v
    · exact .inr (hW3 z (e1 ▸ e2))
    · rw [if_neg e1] at e
      rcases N.pred w z hw e e2 with k | k
      · exact .inl (up k)
      · rcases hW z k with rfl | k
        · exact .inl (vh.trans (up hv))
        · exact .inr k
  · rcases N.src j e1 e2 with k | k
    · exact .inl (up k)
    · rcases hW j k with rfl | k
      · exact .inl (vh.trans (up hv))
      · exact .inr k
  · rcases hW2 z hz with k | k
    · exact N.wait z k
    · exact iv.pred hne k
/-- One that counts as h itself. -/
theorem Nst.drop {ar : Nat → Option Nat} {W W' : Nat → Prop} (N : Nst m E ar h W) (hv : Und ar h y) (hW : ∀ z, W z → z = y ∨ W' z) (hW2 : ∀ z, W' z → W z) : Nst m E ar h W' :=
  ⟨N.done, N.ar_lt, N.mine, fun v z hv' e e2 => (N.pred v z hv' e e2).elim .inl fun k => (hW z k).elim (fun e => .inl (e ▸ hv)) .inr,
    fun j e1 e2 => (N.src j e1 e2).elim .inl fun k => (hW j k).elim (fun e => .inl (e ▸ hv)) .inr, fun z hz => N.wait z (hW2 z hz)⟩
/-- Nothing waits. -/
theorem Nst.end (D : Dfs m E par) {ar : Nat → Option Nat} {W : Nat → Prop} (N : Nst m E ar h W) (hW : ∀ z, ¬ W z) (x : Nat) (hx : x < m) (hh : h < m) : Und ar h x ↔ h = x ∨ In E h x := by
  have hu : ∀ v p, v < m → ar v = some p → p < v := fun v p hv e => (N.ar_lt v p hv e).1
  constructor
  · intro k
    by_cases e : h = x
    · exact .inl e
    · obtain ⟨v, a, b, c⟩ := Und.child hu k hx e
      have iv := N.mine v a b
      have hlt := (N.ar_lt v h a b).1
      rcases (N.done v x a hx hlt).1 c with e1 | e1
      · exact .inr (e1 ▸ iv)
      · exact .inr (e1.head.nest D iv hlt e1)
  · rintro (rfl | ⟨j, a, b, c⟩)
    · exact .refl _
    · rcases c with rfl | c
      · exact .refl _
      · have hj : Und ar h j := (N.src j a b).resolve_right (hW j)
        refine c.back (S := fun z => Und ar h z) hj fun z w hs _ e hwh => ?_
        have hwm := (D.lt e).2
        obtain ⟨v, va, vb, vc⟩ := Und.child hu hs hwm fun e => hwh e.symm
        have hlt := (N.ar_lt v h va vb).1
        rcases (N.done v w va hwm hlt).1 vc with e1 | e1
        · subst e1
          exact (N.pred v z va vb e).resolve_right (hW z)
        · by_cases e2 : w = v
          · subst e2
            exact (N.pred w z va vb e).resolve_right (hW z)
          · have := (N.done v z va (D.lt e).1 hlt).2 (.inr (e1.pred e2 e))
            exact (Und.step vb (.refl _) : Und ar h v).trans this
/-- What each loop is, once all that begin from h on are done. -/
structure Lps (m : Nat) (E : Nat → Nat → Prop) (ar : Nat → Option Nat) (h : Nat) : Prop where
  done : ∀ g x, g < m → x < m → h ≤ g → (Und ar g x ↔ g = x ∨ In E g x)
  ar_lt : ∀ x g, x < m → ar x = some g → g < x ∧ h ≤ g
theorem Lps.start {ar : Nat → Option Nat} (hn : ∀ x, x < m → ar x = none) : Lps m E ar m :=
  ⟨fun g x hg _ h => by omega, fun x g hx e => by rw [hn x hx] at e; cases e⟩
theorem Lps.begin {ar : Nat → Option Nat} {W : Nat → Prop} (L : Lps m E ar (h + 1)) (hW : ∀ z, W z ↔ E z h ∧ Dom E h z) (hh : h < m) (D : Dfs m E par) : Nst m E ar h W := by
  have no : ∀ x, x < m → ar x ≠ some h := fun x hx e => by have := L.ar_lt x h hx e; omega
  refine ⟨fun g x hg hx hlt => L.done g x hg hx hlt, fun x g hx e => ?_, fun x hx e => absurd e (no x hx), fun v y hv e => absurd e (no v hv), fun j e1 e2 => .inr ((hW j).2 ⟨e1, e2⟩), fun y hy => ?_⟩
  · have := L.ar_lt x g hx e; omega
  · obtain ⟨e1, e2⟩ := (hW y).1 hy
    refine ⟨y, e1, e2, ?_⟩
    by_cases e : y = h
    · exact .inl e
    · exact .inr (.one e)
theorem Nst.lps (D : Dfs m E par) {ar : Nat → Option Nat} {W : Nat → Prop} (N : Nst m E ar h W) (hW : ∀ z, ¬ W z) : Lps m E ar h :=
  ⟨fun g x hg hx hle => by
    by_cases e : g = h
    · subst e
      exact N.end D hW x hx hg
    · exact N.done g x hg hx (by omega), N.ar_lt⟩
end
end Go.Proofs.YtacgfjcdfgdpjaaDoor.Gm
