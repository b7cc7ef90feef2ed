/- Ways in a graph, a walk depth first, and what Lengauer and Tarjan showed of it: plain mathematics. -/
namespace Go.Proofs.YtacgfjcdfgdpjaaDoor.Gm

/-- A way from a to b, all of whose places meet A. -/
inductive Way (E : Nat → Nat → Prop) (A : Nat → Prop) : Nat → Nat → Prop where
  | one {a : Nat} : A a → Way E A a a
  | cons {a b c : Nat} : A a → E a b → Way E A b c → Way E A a c
section
variable {E : Nat → Nat → Prop} {A B : Nat → Prop} {a b c d : Nat}
theorem Way.first (h : Way E A a b) : A a := by cases h <;> assumption
theorem Way.last (h : Way E A a b) : A b := by
  induction h with
  | one h => exact h
  | cons _ _ _ ih => exact ih
theorem Way.mono (h : Way E A a b) (f : ∀ x, A x → B x) : Way E B a b := by
  induction h with
  | one h => exact .one (f _ h)
  | cons h e _ ih => exact .cons (f _ h) e ih
theorem Way.app (h : Way E A a b) (k : Way E A b c) : Way E A a c := by
  induction h with
  | one _ => exact k
  | cons h e _ ih => exact .cons h e (ih k)
theorem Way.snoc (h : Way E A a b) (e : E b c) (hc : A c) : Way E A a c := h.app (.cons h.last e (.one hc))
theorem Way.jump (h : Way E A a b) (e : E b c) (k : Way E A c d) : Way E A a d := h.app (.cons h.last e k)
/-- What no edge leads out of. -/
theorem Way.closed (h : Way E A a b) {S : Nat → Prop} (hs : S a) (hc : ∀ x y, S x → A x → E x y → A y → S y) : S b := by
  induction h with
  | one _ => exact hs
  | cons h e k ih => exact ih (hc _ _ hs h e k.first)
/-- The other way round. -/
theorem Way.back (h : Way E A a b) {S : Nat → Prop} (hs : S b) (hc : ∀ x y, S y → A x → E x y → A y → S x) : S a := by
  induction h with
  | one _ => exact hs
  | cons h e k ih => exact hc _ _ (ih hs) h e k.first
end

/-- Above in a walk's tree (or at it). -/
inductive Anc (par : Nat → Nat) : Nat → Nat → Prop where
  | refl (v : Nat) : Anc par v v
  | step {u v : Nat} : 0 < v → Anc par u (par v) → Anc par u v
section
variable {par par' : Nat → Nat} {m u v w : Nat}
theorem Anc.le (hp : ∀ v, 0 < v → v < m → par v < v) (h : Anc par u v) (hv : v < m) : u ≤ v := by
  induction h with
  | refl => exact Nat.le_refl _
  | step h0 _ ih => exact Nat.le_trans (ih (by have := hp _ h0 hv; omega)) (Nat.le_of_lt (hp _ h0 hv))
theorem Anc.trans (h : Anc par u v) (k : Anc par v w) : Anc par u w := by
  induction k with
  | refl => exact h
  | step h0 _ ih => exact .step h0 ih
theorem Anc.cases' (h : Anc par u v) : u = v ∨ (0 < v ∧ Anc par u (par v)) := by
  cases h with
  | refl => exact .inl rfl
  | step h0 h => exact .inr ⟨h0, h⟩
theorem Anc.zero (h : Anc par u 0) : u = 0 := by
  rcases h.cases' with h | ⟨h, _⟩
  · exact h
  · omega
theorem Anc.root (hp : ∀ v, 0 < v → v < m → par v < v) : ∀ v, v < m → Anc par 0 v := by
  intro v
  induction v using Nat.strongRecOn with
  | ind v ih =>
    intro hv
    by_cases h : v = 0
    · rw [h]
      exact .refl 0
    · have h1 := hp v (by omega) hv
      exact .step (by omega) (ih _ h1 (by omega))
theorem Anc.lin (hp : ∀ v, 0 < v → v < m → par v < v) (h : Anc par u w) (k : Anc par v w) (hw : w < m) : Anc par u v ∨ Anc par v u := by
  induction h with
  | refl => exact .inr k
  | step h0 h ih =>
    rcases k.cases' with rfl | ⟨_, k⟩
    · exact .inl (.step h0 h)
    · exact ih k (by have := hp _ h0 hw; omega)
theorem Anc.of_le (hp : ∀ v, 0 < v → v < m → par v < v) (h : Anc par u w) (k : Anc par v w) (hw : w < m) (hl : u ≤ v) : Anc par u v := by
  rcases Anc.lin hp h k hw with h1 | h1
  · exact h1
  · have hu := Anc.le hp h1 (by have := Anc.le hp h hw; omega)
    have : u = v := by omega
    rw [this]
    exact .refl _
theorem Anc.same (hp : ∀ v, 0 < v → v < m → par v < v) (he : ∀ v, v < m → par' v = par v) (h : Anc par u v) (hv : v < m) : Anc par' u v := by
  induction h with
  | refl => exact .refl _
  | step h0 _ ih =>
    have := hp _ h0 hv
    exact .step h0 (by rw [he _ hv]; exact ih (by omega))
/-- The child towards something below. -/
theorem Anc.child (hp : ∀ v, 0 < v → v < m → par v < v) (h : Anc par u w) (hw : w < m) (hne : u ≠ w) : ∃ x, 0 < x ∧ x < m ∧ par x = u ∧ Anc par x w := by
  induction h with
  | refl => exact absurd rfl hne
  | @step z h0 h ih =>
    by_cases e : u = par z
    · exact ⟨_, h0, hw, e.symm, .refl _⟩
    · obtain ⟨x, a, b, c, d⟩ := ih (by have := hp _ h0 hw; omega) e
      exact ⟨x, a, b, c, .step h0 d⟩
end

/-- Numbers of a walk depth first. -/
structure Dfs (m : Nat) (E : Nat → Nat → Prop) (par : Nat → Nat) : Prop where
  pos : 0 < m
  lt : ∀ {u v}, E u v → u < m ∧ v < m
  par_lt : ∀ v, 0 < v → v < m → par v < v
  par_e : ∀ v, 0 < v → v < m → E (par v) v
  anc : ∀ {u v}, E u v → u < v → Anc par u v
  cont : ∀ {u w x}, Anc par u x → x < m → u ≤ w → w ≤ x → Anc par u w

/-- A way from x to q that goes over greater ones than q alone. -/
def SP (E : Nat → Nat → Prop) (x q : Nat) : Prop := E x q ∨ ∃ a b, E x a ∧ Way E (fun z => q < z) a b ∧ E b q
/-- d is above v. -/
def Dom (E : Nat → Nat → Prop) (d v : Nat) : Prop := ¬ Way E (fun z => z ≠ d) 0 v

section
variable {m : Nat} {E : Nat → Nat → Prop} {par : Nat → Nat}
theorem Dfs.le (D : Dfs m E par) {u v : Nat} (h : Anc par u v) (hv : v < m) : u ≤ v := Anc.le D.par_lt h hv
/-- Down the tree. -/
theorem Dfs.down (D : Dfs m E par) {u v : Nat} (h : Anc par u v) (hv : v < m) : Way E (fun z => u ≤ z) u v := by
  induction h with
  | refl => exact .one (Nat.le_refl _)
  | step h0 h ih =>
    have h1 := D.par_lt _ h0 hv
    have h2 := D.le h (by omega)
    exact (ih (by omega)).snoc (D.par_e _ h0 hv) (by omega)
theorem Dfs.reach (D : Dfs m E par) {v : Nat} (hv : v < m) : Way E (fun _ => True) 0 v := (D.down (Anc.root D.par_lt v hv) hv).mono fun _ _ => trivial
theorem Way.lt (D : Dfs m E par) {A : Nat → Prop} {a b : Nat} (h : Way E A a b) (ha : a < m) : b < m := h.closed (S := fun z => z < m) ha fun _ _ _ _ e _ => (D.lt e).2
/-- What isn't above q, on a way to q, is greater than q. -/
theorem Dfs.over (D : Dfs m E par) {a b q : Nat} (h : Way E (fun z => ¬ Anc par z q) a b) (e : E b q) : Way E (fun z => q < z) a b := by
  have one : ∀ a, ¬ Anc par a q → E a q → q < a := fun a h e => by
    rcases Nat.lt_trichotomy a q with h1 | h1 | h1
    · exact absurd (D.anc e h1) h
    · subst h1; exact absurd (.refl _) h
    · exact h1
  induction h with
  | one h => exact .one (one _ h e)
  | @cons a a1 b h e1 k ih =>
    have h1 := ih e
    have hf := h1.first
    refine .cons ?_ e1 h1
    rcases Nat.lt_or_ge a a1 with h2 | h2
    · rcases Nat.lt_trichotomy a q with h3 | h3 | h3
      · exact absurd (D.cont (D.anc e1 h2) (D.lt e1).2 (Nat.le_of_lt h3) (Nat.le_of_lt hf)) h
      · subst h3; exact absurd (.refl _) h
      · exact h3
    · show q < a
      omega
/-- A lower one from which such a way leads is above. -/
theorem Dfs.sp_anc (D : Dfs m E par) {x q : Nat} (h : SP E x q) (hx : x < q) : Anc par x q := by
  refine Classical.byContradiction fun hn => ?_
  rcases h with h | ⟨a, b, e1, k, e2⟩
  · exact hn (D.anc h hx)
  · have hq := (D.lt e2).2
    have k' : Way E (fun z => ¬ Anc par z q) a b := k.mono fun z hz ha => by
      have := D.le ha hq
      omega
    have := (D.over (.cons hn e1 k') e2).first
    omega

/-- What is known of the lowest ones. -/
structure Semi (m : Nat) (E : Nat → Nat → Prop) (s : Nat → Nat) (t : Nat) : Prop where
  sp : ∀ v, t ≤ v → 0 < v → v < m → SP E (s v) v
  lt : ∀ v, t ≤ v → 0 < v → v < m → s v < v
  least : ∀ v x, t ≤ v → 0 < v → v < m → SP E x v → x < v → s v ≤ x

/-- Who isn't above v, though he stands above it in the tree, is gone round. -/
theorem Dfs.round (D : Dfs m E par) {s : Nat → Nat} (S : Semi m E s 1) {d v : Nat} (hv : v < m) (ha : Anc par d v) (hn : d ≠ v) (hw : Way E (fun z => z ≠ d) 0 v) :
    ∃ q, Anc par q v ∧ d < q ∧ Way E (fun z => z ≠ d) 0 q ∧ s q < d := by
  have h0 : (0 : Nat) ≠ d := hw.first
  have hdv : d < v := by have := D.le ha hv; omega
  refine Classical.byContradiction fun hno => ?_
  have key : (v < d) ∨ (¬ Anc par v v) := by
    have main : ∀ p, Way E (fun z => z ≠ d) 0 p → (p < d) ∨ (d < p ∧ ∃ x a, x < d ∧ E x a ∧ Way E (fun z => d < z ∧ ¬ Anc par z v) a p) := by
      -- from the left: a way's end
      have step : ∀ {a b : Nat}, Way E (fun z => z ≠ d) a b → Way E (fun z => z ≠ d) 0 a → ((a < d) ∨ (d < a ∧ ∃ x y, x < d ∧ E x y ∧ Way E (fun z => d < z ∧ ¬ Anc par z v) y a)) → ((b < d) ∨ (d < b ∧ ∃ x y, x < d ∧ E x y ∧ Way E (fun z => d < z ∧ ¬ Anc par z v) y b)) := by
        intro a b hk
        induction hk with
        | one _ => exact fun _ h => h
        | @cons a p b hda e k ih =>
          intro h0a ha
          have hp := k.first
          have h0p := h0a.snoc e hp
          refine ih h0p ?_
          rcases Nat.lt_trichotomy p d with h1 | h1 | h1
          · exact .inl h1
          · exact absurd h1 hp
          · by_cases hav : Anc par p v
            · exfalso
              have hpm := (D.lt e).2
              have hsp : ∃ x, x < d ∧ SP E x p := by
                rcases ha with ha | ⟨ha, x, y, hx, e1, k1⟩
                · exact ⟨a, ha, .inl e⟩
                · exact ⟨x, hx, .inr ⟨y, a, e1, D.over (k1.mono fun z hz hzp => hz.2 (hzp.trans hav)) e, e⟩⟩
              obtain ⟨x, hx, hsp⟩ := hsp
              have := S.least p x (by omega) (by omega) hpm hsp (by omega)
              exact hno ⟨p, hav, h1, h0p, by omega⟩
            · refine .inr ⟨h1, ?_⟩
              rcases ha with ha | ⟨ha, x, y, hx, e1, k1⟩
              · exact ⟨a, p, ha, e, .one ⟨h1, hav⟩⟩
              · exact ⟨x, y, hx, e1, k1.snoc e ⟨h1, hav⟩⟩
      intro p hp
      exact step hp (.one h0) (.inl (by omega))
    rcases main v hw with h | ⟨_, x, a, _, _, k⟩
    · exact .inl h
    · exact .inr k.last.2
  rcases key with h | h
  · omega
  · exact h (.refl _)

theorem Dom.anc (D : Dfs m E par) {d v : Nat} (h : Dom E d v) (hv : v < m) : Anc par d v := by
  refine Classical.byContradiction fun hn => ?_
  have : ∀ v, v < m → ¬ Anc par d v → Way E (fun z => z ≠ d) 0 v := by
    intro v
    induction v using Nat.strongRecOn with
    | ind v ih =>
      intro hv hn
      by_cases h0 : v = 0
      · subst h0
        exact .one fun e => hn (by rw [← e]; exact .refl _)
      · have h1 := D.par_lt v (by omega) hv
        exact (ih _ h1 (by omega) fun ha => hn (.step (by omega) ha)).snoc (D.par_e v (by omega) hv) fun e => hn (by rw [e]; exact .refl _)
  exact h (this v hv hn)
theorem Dom.self {v : Nat} : Dom E v v := fun h => h.last rfl
theorem Dom.zero {v : Nat} : Dom E 0 v := fun h => h.first rfl
theorem Dom.trans {d t v : Nat} (h : Dom E d t) (k : Dom E t v) : Dom E d v := by
  intro hw
  by_cases hdt : d = t
  · exact k (hdt ▸ hw)
  · -- the way comes over t
    have : ∀ {a b : Nat}, Way E (fun z => z ≠ d) a b → Way E (fun z => z ≠ d) 0 a → Way E (fun z => z ≠ t) a b := by
      intro a b hk
      induction hk with
      | one ha => exact fun h0 => .one fun e => h (e ▸ h0)
      | @cons a p b ha e k ih => exact fun h0 => .cons (fun e => h (e ▸ h0)) e (ih (h0.snoc e k.first))
    exact k (this hw (.one hw.first))
/-- Who is above v, and isn't v, is above the lowest one from which such a way leads to v. -/
theorem Dfs.dom_semi (D : Dfs m E par) {s : Nat → Nat} (S : Semi m E s 1) {d v : Nat} (hv : v < m) (h0 : 0 < v) (h : Dom E d v) (hn : d ≠ v) : Dom E d (s v) := by
  intro hw
  have hdv : d < v := by have := D.le (h.anc D hv) hv; omega
  rcases S.sp v (by omega) h0 hv with e | ⟨a, b, e1, k, e2⟩
  · exact h (hw.snoc e fun e => hn e.symm)
  · exact h ((hw.jump e1 (k.mono fun z hz e => by omega)).snoc e2 fun e => hn e.symm)
/-- .. and above whatever stands in the tree between both. -/
theorem Dfs.dom_mid (D : Dfs m E par) {s : Nat → Nat} (S : Semi m E s 1) {d v u : Nat} (hv : v < m) (h0 : 0 < v) (h : Dom E d v) (hn : d ≠ v) (hu : Anc par u v) (hs : s v < u) : Dom E d u ∧ d ≠ u := by
  have hd := (D.dom_semi S hv h0 h hn).anc D (by have := S.lt v (by omega) h0 hv; omega)
  have hsv := S.lt v (by omega) h0 hv
  have hds := D.le hd (by omega)
  exact ⟨fun hw => h (hw.app ((D.down hu hv).mono fun z hz e => by omega)), by omega⟩

/-- What the walk tells of each number: the one with the lowest .. between. -/
structure Near (m : Nat) (par s : Nat → Nat) (v y : Nat) : Prop where
  up : Anc par y v
  below : s v < y
  best : ∀ z, Anc par z v → s v < z → s y ≤ s z
/-- Lengauer's and Tarjan's theorem. -/
theorem Dfs.dom_is (D : Dfs m E par) {s : Nat → Nat} (S : Semi m E s 1) {v y d : Nat} (hv : v < m) (h0 : 0 < v) (N : Near m par s v y) :
    (s v ≤ s y → (Dom E d v ↔ d = v ∨ Dom E d (s v))) ∧ (s y < s v → (Dom E d v ↔ d = v ∨ (d ≠ y ∧ Dom E d y))) := by
  have hsv := S.lt v (by omega) h0 hv
  have hsa : Anc par (s v) v := D.sp_anc (S.sp v (by omega) h0 hv) hsv
  constructor
  · intro hle
    constructor
    · intro h
      by_cases hn : d = v
      · exact .inl hn
      · exact .inr (D.dom_semi S hv h0 h hn)
    · rintro (rfl | h)
      · exact Dom.self
      · refine h.trans fun hw => ?_
        obtain ⟨q, hq, hlt, _, hqs⟩ := D.round S hv hsa (by omega) hw
        have := N.best q hq hlt
        omega
  · intro hlt
    constructor
    · intro h
      by_cases hn : d = v
      · exact .inl hn
      · have := D.dom_mid S hv h0 h hn N.up N.below
        exact .inr ⟨this.2, this.1⟩
    · rintro (rfl | ⟨hne, h⟩)
      · exact Dom.self
      · intro hw
        have hyv := D.le N.up hv
        have hym : y < m := by omega
        have hy0 : 0 < y := by have := N.below; omega
        have hdy := h.anc D hym
        have hds := D.le ((D.dom_semi S hym hy0 h hne).anc D (by have := S.lt y (by omega) hy0 hym; omega)) (by have := S.lt y (by omega) hy0 hym; omega)
        have hdl : d < y := by have := D.le hdy hym; omega
        obtain ⟨q, hq, hdq, hwq, hqs⟩ := D.round S hv (hdy.trans N.up) (by omega) hw
        by_cases hqt : s v < q
        · have := N.best q hq hqt
          omega
        · have hb := N.below
          have hqy : Anc par q y := Anc.of_le D.par_lt hq N.up hv (by omega)
          exact h (hwq.app ((D.down hqy hym).mono fun z hz e => by omega))

/-- How the lowest one is found: over what stands above the places from which an edge leads. -/
theorem Dfs.semi_step (D : Dfs m E par) {s : Nat → Nat} {v : Nat} (hv : v < m) (h0 : 0 < v) (S : Semi m E s (v + 1)) (y : Nat → Nat)
    (hy : ∀ u, E u v → v < u → Anc par (y u) u ∧ v < y u ∧ ∀ z, Anc par z u → v < z → s (y u) ≤ s z)
    (hs : ∃ u, E u v ∧ s v = if v < u then s (y u) else u) (hl : ∀ u, E u v → s v ≤ if v < u then s (y u) else u) : Semi m E s v := by
  have hpar := D.par_lt v h0 hv
  have hle : s v ≤ par v := by
    have := hl _ (D.par_e v h0 hv)
    rw [if_neg (by omega)] at this
    exact this
  have one : SP E (s v) v ∧ s v < v ∧ ∀ x, SP E x v → x < v → s v ≤ x := by
    refine ⟨?_, by omega, ?_⟩
    · obtain ⟨u, he, hu⟩ := hs
      by_cases h1 : v < u
      · rw [if_pos h1] at hu
        obtain ⟨ha, hb, _⟩ := hy u he h1
        have hum := (D.lt he).1
        have hym : y u < m := by have := D.le ha hum; omega
        have k := (D.down ha hum).mono (B := fun z => v < z) fun z hz => by omega
        rw [hu]
        rcases S.sp (y u) (by omega) (by omega) hym with e | ⟨a, b, e1, k1, e2⟩
        · exact .inr ⟨y u, u, e, k, he⟩
        · exact .inr ⟨a, u, e1, (k1.mono fun z hz => by omega).jump e2 k, he⟩
      · rw [if_neg h1] at hu
        rw [hu]
        exact .inl he
    · intro x hx hxv
      rcases hx with e | ⟨a, b, e1, k, e2⟩
      · have := hl x e
        rw [if_neg (by omega)] at this
        exact this
      · have hbv : v < b := k.last
        have hbm := (D.lt e2).1
        have fst : ∀ {a : Nat}, Way E (fun z => v < z) a b → ∃ y, v < y ∧ Anc par y b ∧ (a = y ∨ ∃ b', Way E (fun z => v < z ∧ ¬ Anc par z b) a b' ∧ E b' y) := by
          intro a hk
          induction hk with
          | one h => exact ⟨_, h, .refl _, .inl rfl⟩
          | @cons a p c ha e k ih =>
            by_cases hab : Anc par a c
            · exact ⟨a, ha, hab, .inl rfl⟩
            · obtain ⟨y, h1, h2, h3⟩ := ih k e2 hbv hbm
              rcases h3 with rfl | ⟨b', h3, h4⟩
              · exact ⟨p, h1, h2, .inr ⟨a, .one ⟨ha, hab⟩, e⟩⟩
              · exact ⟨y, h1, h2, .inr ⟨b', .cons ⟨ha, hab⟩ e h3, h4⟩⟩
        obtain ⟨z, h1, h2, h3⟩ := fst k
        have hzm : z < m := by have := D.le h2 hbm; omega
        have hsp : SP E x z := by
          rcases h3 with rfl | ⟨b', h3, h4⟩
          · exact .inl e1
          · exact .inr ⟨a, b', e1, D.over (h3.mono fun w hw hz => hw.2 (hz.trans h2)) h4, h4⟩
        have h5 := S.least z x (by omega) (by omega) hzm hsp (by omega)
        have h6 := hl b e2
        rw [if_pos hbv] at h6
        have h7 := (hy b e2 hbv).2.2 z h2 h1
        omega
  refine ⟨fun w hw hw0 hwm => ?_, fun w hw hw0 hwm => ?_, fun w x hw hw0 hwm => ?_⟩
  · by_cases e : w = v
    · subst e; exact one.1
    · exact S.sp w (by omega) hw0 hwm
  · by_cases e : w = v
    · subst e; exact one.2.1
    · exact S.lt w (by omega) hw0 hwm
  · by_cases e : w = v
    · subst e; exact one.2.2 x
    · exact S.least w x (by omega) hw0 hwm
end
end Go.Proofs.YtacgfjcdfgdpjaaDoor.Gm
