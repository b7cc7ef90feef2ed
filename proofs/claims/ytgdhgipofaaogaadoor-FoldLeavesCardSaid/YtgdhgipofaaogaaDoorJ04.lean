/- Lemmas for the laws of live (Fsp Fso Fle Fta Ftm Fcc Fcd): each says its own conditions. -/
import Derived.Test.YtgdhgipofaaogaaDoorJ03
import Derived.Test.YtgdhgipofaaogaaDoorJ02
set_option linter.unusedSimpArgs false
set_option linter.unusedVariables false
namespace Go.Proofs.YtgdhgipofaaogaaDoor
open Gm

/-- What was found: rc: what is come to; wt: what waits to be gone on from; D: what was gone on from; a: the one whose ways are gone now, with the first of them. -/
structure SI (c : List Ic) (rc : Nat → Bool) (wt D : List Nat) (fr : Nat → List Nat) (tg : Nat → Bool) (a : Option (Nat × List Nat)) : Prop where
  sound : ∀ p, rc p = true → Rc c p
  all : ∀ p, rc p = true → p ∈ D ∨ p ∈ wt ∨ ∃ l, a = some (p, l)
  wr : ∀ p, p ∈ wt → rc p = true
  dr : ∀ p, p ∈ D → rc p = true
  ar : ∀ p l, a = some (p, l) → rc p = true ∧ ∀ q, q ∈ l → q ∈ outs c p
  nd : (D ++ wt).Nodup
  na : ∀ p l, a = some (p, l) → p ∉ D ∧ p ∉ wt
  zero : rc 0 = true
  fe : ∀ p q, q ∈ fr p ↔ (q ∈ D ∧ p ∈ outs c q) ∨ ∃ l, a = some (q, l) ∧ p ∈ l
  cl : ∀ p q, (q ∈ D ∧ p ∈ outs c q) ∨ (∃ l, a = some (q, l) ∧ p ∈ l) → rc p = true
  tg : ∀ p, tg p = true ↔ p = 0 ∨ 1 < (fr p).length
def updL (fr : Nat → List Nat) (p : Nat) (l : List Nat) : Nat → List Nat := fun q => if q = p then l else fr q
section
variable {c : List Ic} {rc : Nat → Bool} {wt D : List Nat} {fr : Nat → List Nat} {tg : Nat → Bool} {a : Option (Nat × List Nat)} {p q : Nat} {l : List Nat}
theorem SI.new (h0 : 0 < c.length) : SI c (fun p => decide (p = 0)) [0] [] (fun _ => []) (fun p => decide (p = 0)) none where
  sound := fun p h => by
    have : p = 0 := by simpa using h
    rw [this]; exact .zero h0
  all := fun p h => .inr (.inl (by simpa using h))
  wr := fun p h => by simpa using h
  dr := fun _ h => by cases h
  ar := fun _ _ h => by cases h
  nd := by simp
  na := fun _ _ h => by cases h
  zero := by simp
  fe := fun p q => by simp
  cl := fun p q h => by
    rcases h with ⟨h, -⟩ | ⟨_, h, -⟩
    · cases h
    · cases h
  tg := fun p => by simp
/-- The last one that waits is taken. -/
theorem SI.pop (h : SI c rc (wt ++ [q]) D fr tg none) : SI c rc wt D fr tg (some (q, [])) where
  sound := h.sound
  all := fun p hp => by
    rcases h.all p hp with k | k | ⟨_, k⟩
    · exact .inl k
    · rcases List.mem_append.1 k with k | k
      · exact .inr (.inl k)
      · exact .inr (.inr ⟨[], by rw [show p = q by simpa using k]⟩)
    · cases k
  wr := fun p hp => h.wr p (List.mem_append.2 (.inl hp))
  dr := h.dr
  ar := fun p l e => by
    cases e
    exact ⟨h.wr q (by simp), fun _ k => by cases k⟩
  nd := by
    have := h.nd
    rw [← List.append_assoc] at this
    exact this.sublist (List.sublist_append_left _ _)
  na := fun p l e => by
    cases e
    have := h.nd
    rw [← List.append_assoc, List.nodup_append] at this
    exact ⟨fun k => this.2.2 q (List.mem_append.2 (.inl k)) q (by simp) rfl, fun k => this.2.2 q (List.mem_append.2 (.inr k)) q (by simp) rfl⟩
  zero := h.zero
  fe := fun p q' => by
    rw [h.fe p q']
    constructor
    · rintro (k | ⟨_, k, -⟩)
      · exact .inl k
      · cases k
    · rintro (k | ⟨l, k, hm⟩)
      · exact .inl k
      · cases k; cases hm
  cl := fun p q' k => by
    rcases k with k | ⟨l, k, hm⟩
    · exact h.cl p q' (.inl k)
    · cases k; cases hm
  tg := h.tg
/-- One way is gone: to a place that was come to, or to a new one. -/
theorem SI.edge (h : SI c rc wt D fr tg (some (q, l))) (hp : p ∈ outs c q) : SI c (fun z => if z = p then true else rc z) (if rc p = true then wt else wt ++ [p]) D (updL fr p (fr p ++ [q])) (fun z => if z = p then decide (p = 0 ∨ 1 < (fr p ++ [q]).length) else tg z) (some (q, l ++ [p])) := by
  have hq := (h.ar q l rfl).1
  have hrc : ∀ z, (if z = p then true else rc z) = true ↔ z = p ∨ rc z = true := fun z => by
    by_cases e : z = p
    · rw [if_pos e]; simp [e]
    · rw [if_neg e]; simp [e]
  have hw : ∀ z, z ∈ (if rc p = true then wt else wt ++ [p]) ↔ z ∈ wt ∨ (rc p = false ∧ z = p) := fun z => by
    cases e : rc p with
    | true => rw [if_pos rfl]; simp
    | false => rw [if_neg (by simp)]; simp
  refine ⟨fun z hz => ?_, fun z hz => ?_, fun z hz => ?_, fun z hz => ?_, fun z l' e => ?_, ?_, fun z l' e => ?_, ?_, fun z y => ?_, fun z y k => ?_, fun z => ?_⟩
  · rcases (hrc z).1 hz with e | k
    · rw [e]; exact .on (h.sound q hq) hp
    · exact h.sound z k
  · by_cases hzr : rc z = true
    · rcases h.all z hzr with k | k | ⟨l', k⟩
      · exact .inl k
      · exact .inr (.inl ((hw z).2 (.inl k)))
      · cases k; exact .inr (.inr ⟨_, rfl⟩)
    · rcases (hrc z).1 hz with e | k
      · exact .inr (.inl ((hw z).2 (.inr ⟨by rw [← e]; simpa using hzr, e⟩)))
      · exact absurd k hzr
  · rw [hrc]
    rcases (hw z).1 hz with k | ⟨-, k⟩
    · exact .inr (h.wr z k)
    · exact .inl k
  · rw [hrc]; exact .inr (h.dr z hz)
  · cases e
    refine ⟨(hrc q).2 (.inr hq), fun y hy => ?_⟩
    rcases List.mem_append.1 hy with hy | hy
    · exact (h.ar q l rfl).2 y hy
    · rw [show y = p by simpa using hy]; exact hp
  · cases e : rc p with
    | true => rw [if_pos rfl]; exact h.nd
    | false =>
      rw [if_neg (by simp), ← List.append_assoc, List.nodup_append]
      refine ⟨h.nd, by simp, fun x hx y hy => ?_⟩
      have hy : y = p := by simpa using hy
      intro e2
      rw [e2, hy] at hx
      have : rc p = true := by
        rcases List.mem_append.1 hx with hx | hx
        · exact h.dr p hx
        · exact h.wr p hx
      rw [e] at this
      cases this
  · cases e
    refine ⟨(h.na q l rfl).1, fun k => ?_⟩
    rcases (hw q).1 k with k | ⟨k, e⟩
    · exact (h.na q l rfl).2 k
    · rw [← e, hq] at k; cases k
  · rw [hrc]; exact .inr h.zero
  · unfold updL
    by_cases e : z = p
    · subst e
      rw [if_pos rfl, List.mem_append, h.fe z y]
      constructor
      · rintro ((k | ⟨l', k, hm⟩) | k)
        · exact .inl k
        · cases k; exact .inr ⟨_, rfl, List.mem_append.2 (.inl hm)⟩
        · exact .inr ⟨l ++ [z], by rw [show y = q by simpa using k], by simp⟩
      · rintro (k | ⟨l', k, hm⟩)
        · exact .inl (.inl k)
        · cases k; exact .inr (by simp)
    · rw [if_neg e, h.fe z y]
      constructor
      · rintro (k | ⟨l', k, hm⟩)
        · exact .inl k
        · cases k; exact .inr ⟨_, rfl, List.mem_append.2 (.inl hm)⟩
      · rintro (k | ⟨l', k, hm⟩)
        · exact .inl k
        · cases k
          rcases List.mem_append.1 hm with hm | hm
          · exact .inr ⟨_, rfl, hm⟩
          · exact absurd (by simpa using hm) e
  · rw [hrc]
    by_cases e : z = p
    · exact .inl e
    · refine .inr (h.cl z y ?_)
      rcases k with k | ⟨l', k, hm⟩
      · exact .inl k
      · cases k
        rcases List.mem_append.1 hm with hm | hm
        · exact .inr ⟨_, rfl, hm⟩
        · exact absurd (by simpa using hm) e
  · unfold updL
    by_cases e : z = p
    · subst e
      simp
    · rw [if_neg e, if_neg e]; exact h.tg z
/-- All its ways are gone. -/
theorem SI.end (h : SI c rc wt D fr tg (some (q, l))) (hl : ∀ p, p ∈ outs c q → p ∈ l) : SI c rc wt (D ++ [q]) fr tg none where
  sound := h.sound
  all := fun p hp => by
    rcases h.all p hp with k | k | ⟨l', k⟩
    · exact .inl (List.mem_append.2 (.inl k))
    · exact .inr (.inl k)
    · cases k; exact .inl (by simp)
  wr := h.wr
  dr := fun p hp => by
    rcases List.mem_append.1 hp with k | k
    · exact h.dr p k
    · rw [show p = q by simpa using k]; exact (h.ar q l rfl).1
  ar := fun _ _ e => by cases e
  nd := by
    have h1 := h.nd
    have h2 := h.na q l rfl
    rw [List.nodup_append] at h1 ⊢
    refine ⟨?_, h1.2.1, fun x hx y hy => ?_⟩
    · rw [List.nodup_append]
      exact ⟨h1.1, by simp, fun x hx y hy e => h2.1 (by rw [← (show y = q by simpa using hy), ← e]; exact hx)⟩
    · rcases List.mem_append.1 hx with k | k
      · exact h1.2.2 x k y hy
      · exact fun e => h2.2 (by rw [← (show x = q by simpa using k), e]; exact hy)
  na := fun _ _ e => by cases e
  zero := h.zero
  fe := fun p y => by
    rw [h.fe p y]
    constructor
    · rintro (⟨k, hm⟩ | ⟨l', k, hm⟩)
      · exact .inl ⟨List.mem_append.2 (.inl k), hm⟩
      · cases k; exact .inl ⟨by simp, (h.ar q l rfl).2 p hm⟩
    · rintro (⟨k, hm⟩ | ⟨_, k, -⟩)
      · rcases List.mem_append.1 k with k | k
        · exact .inl ⟨k, hm⟩
        · have e : y = q := by simpa using k
          subst e
          exact .inr ⟨l, rfl, hl p hm⟩
      · cases k
  cl := fun p y k => by
    rcases k with ⟨k, hm⟩ | ⟨_, k, -⟩
    · rcases List.mem_append.1 k with k | k
      · exact h.cl p y (.inl ⟨k, hm⟩)
      · have e : y = q := by simpa using k
        subst e
        exact h.cl p y (.inr ⟨l, rfl, hl p hm⟩)
    · cases k
  tg := h.tg
/-- When nothing waits, all ways are found. -/
theorem SI.rc_iff (h : SI c rc [] D fr tg none) (p : Nat) : rc p = true ↔ Rc c p := by
  refine ⟨h.sound p, fun hp => ?_⟩
  induction hp with
  | zero _ => exact h.zero
  | @on i j hi hj ih =>
    rcases h.all i ih with k | k | ⟨_, k⟩
    · exact h.cl j i (.inl ⟨k, hj⟩)
    · cases k
    · cases k
theorem SI.stp (h : SI c rc [] D fr tg none) : Stp c fr tg where
  mem := fun p q => by
    rw [h.fe p q]
    constructor
    · rintro (⟨k, hm⟩ | ⟨_, k, -⟩)
      · exact ⟨h.sound q (h.dr q k), hm⟩
      · cases k
    · rintro ⟨hq, hm⟩
      rcases h.all q ((h.rc_iff q).2 hq) with k | k | ⟨_, k⟩
      · exact .inl ⟨k, hm⟩
      · cases k
      · cases k
  tg := fun p _ => h.tg p
end
end Go.Proofs.YtgdhgipofaaogaaDoor
namespace Go.Proofs.YtgdhgipofaaogaaDoor
open Go Go.RowKit Gm

/-- The steps in memory. -/
structure StM (W : World) (sb n : Nat) (c : List Ic) (rc tg : Nat → Bool) (fr : Nat → List Nat) : Prop where
  sl : sb < W.heap.size
  r : ∀ i, i < n → W.cell? ⟨sb, i * 5, none⟩ = some (.bool (rc i))
  t : ∀ i, i < n → W.cell? ⟨sb, i * 5 + 1, none⟩ = some (.bool (tg i))
  f : ∀ i, i < n → ∃ p cap, W.cell? ⟨sb, i * 5 + 2, none⟩ = some (.slice p (fr i).length cap) ∧ RV W p (fr i).length (lv (fr i))
  d : ∀ i, i < n → rc i = true → W.cell? ⟨sb, i * 5 + 3, none⟩ = some (.int .i64 (dfn c i))
  nn : ∀ i, i < n → rc i = true → ∃ p cap, W.cell? ⟨sb, i * 5 + 4, none⟩ = some (.slice p (nds c i).length cap) ∧ RV W p (nds c i).length (iv fun j => (nds c i).getD j 0)
theorem StM.stay {W X : World} {sb n : Nat} {c : List Ic} {rc tg : Nat → Bool} {fr : Nat → List Nat} (h : StM W sb n c rc tg fr) (hb : Below W.heap.size W X) : StM X sb n c rc tg fr where
  sl := Nat.lt_of_lt_of_le h.sl hb.size
  r := fun i hi => (hb.cell (p := ⟨sb, _, none⟩) h.sl).trans (h.r i hi)
  t := fun i hi => (hb.cell (p := ⟨sb, _, none⟩) h.sl).trans (h.t i hi)
  f := fun i hi => by
    obtain ⟨p, cap, h1, h2⟩ := h.f i hi
    exact ⟨p, cap, (hb.cell (p := ⟨sb, _, none⟩) h.sl).trans h1, h2.stay hb⟩
  d := fun i hi hr => (hb.cell (p := ⟨sb, _, none⟩) h.sl).trans (h.d i hi hr)
  nn := fun i hi hr => by
    obtain ⟨p, cap, h1, h2⟩ := h.nn i hi hr
    exact ⟨p, cap, (hb.cell (p := ⟨sb, _, none⟩) h.sl).trans h1, h2.stay hb⟩
/-- How many steps back a source lies. -/
inductive SrcN (c : List Ic) (fr : Nat → List Nat) (tg : Nat → Bool) (r : Int) : Nat → Nat → Nat → Prop
  | stop {q : Nat} (h : dfn c q = r ∨ tg q = true) : SrcN c fr tg r 0 q q
  | back {k q s : Nat} (h1 : dfn c q ≠ r) (h2 : tg q = false) (h : SrcN c fr tg r k (pd fr q) s) : SrcN c fr tg r (k + 1) q s
theorem Src.num {c : List Ic} {fr : Nat → List Nat} {tg : Nat → Bool} {r : Int} {q s : Nat} (h : Src c fr tg r q s) : ∃ k, SrcN c fr tg r k q s := by
  induction h with
  | stop h => exact ⟨0, .stop h⟩
  | back h1 h2 _ ih =>
    obtain ⟨k, hk⟩ := ih
    exact ⟨k + 1, .back h1 h2 hk⟩
theorem SrcN.one {c : List Ic} {fr : Nat → List Nat} {tg : Nat → Bool} {r : Int} {k k' q s s' : Nat} (h : SrcN c fr tg r k q s) (h' : SrcN c fr tg r k' q s') : k = k' := by
  induction h generalizing k' with
  | stop h =>
    cases h' with
    | stop _ => rfl
    | back h1 h2 _ =>
      rcases h with h | h
      · exact absurd h h1
      · rw [h2] at h; cases h
  | back h1 h2 _ ih =>
    cases h' with
    | stop h =>
      rcases h with h | h
      · exact absurd h h1
      · rw [h2] at h; cases h
    | back _ _ h => rw [ih h]
open Classical in
noncomputable def srcK (c : List Ic) (fr : Nat → List Nat) (tg : Nat → Bool) (r : Int) (q : Nat) : Nat := if h : ∃ k s, SrcN c fr tg r k q s then h.choose else 0
theorem srcK_eq {c : List Ic} {fr : Nat → List Nat} {tg : Nat → Bool} {r : Int} {k q s : Nat} (h : SrcN c fr tg r k q s) : srcK c fr tg r q = k := by
  unfold srcK
  have hx : ∃ k s, SrcN c fr tg r k q s := ⟨k, s, h⟩
  rw [dif_pos hx]
  obtain ⟨s', h'⟩ := hx.choose_spec
  exact h'.one h
set_option maxRecDepth 100000 in
set_option maxHeartbeats 4000000 in
theorem source_c {W : World} {g sb n q s : Nat} {F : Nat → Value} {c : List Ic} {rc tg : Nat → Bool} {fr : Nat → List Nat} {r : Int} (hF : Hid (FV 69 W g 8 F)) (hF1 : F 1 = .slice (some ⟨sb, 0, none⟩) n n) (hM : Hid (StM W sb n c rc tg fr)) (hS : Hid (Stp c fr tg)) (hrc : Hid (∀ p, rc p = true ↔ Rc c p)) (hl : c.length = n) (hn : n ≤ 5000) (hq : Rc c q) (hsr : Src c fr tg r q s) : Calls Tryd.prog 43 #[.pointer (some ⟨g, 0, none⟩), .int .i64 q, .int .i64 r] W fun e w' => e = .returned (.int .i64 s) ∧ Below W.heap.size W w' := by
  have hg0 := hF.out.lt
  have c1 := hF.out.cell (i := 1) (by omega)
  rw [hF1] at c1
  obtain ⟨k, hk⟩ := hsr.num
  have HK := Lib.hid hk
  have HQ := Lib.hid hq
  have hsl := hM.out.sl
  clear hk hq hsr
  go_enter Tryd.func43, Tryd.ntmps43
  go_upto_region 1 with (fail)
  go_loopw [1] (fun a wr => ∃ (q k : Nat), a = .int .i64 q ∧ Hid (Below W.heap.size W wr ∧ Rc c q ∧ SrcN c fr tg r k q s)) (fun a _ => srcK c fr tg r (intOf a).toNat)
  case atStart => exact ⟨q, k, rfl, Lib.hid ⟨below_like (Below.refl _ _) rfl rfl rfl rfl, HQ.out, HK.out⟩⟩
  case round =>
    obtain ⟨wo, rfl⟩ : ∃ wo : World, wo = wr := ⟨_, rfl⟩
    obtain ⟨q, k, rfl, HR⟩ := hrel
    have hqn : q < n := by rw [← hl]; exact HR.out.2.1.lt
    have hc1 := (HR.out.1.cell (p := ⟨g, 1, none⟩) hg0).trans c1
    have hd := (HR.out.1.cell (p := ⟨sb, _, none⟩) hsl).trans (hM.out.d q hqn ((hrc.out q).2 HR.out.2.1))
    have ht := (HR.out.1.cell (p := ⟨sb, _, none⟩) hsl).trans (hM.out.t q hqn)
    obtain ⟨pf, kf, hf, hrv⟩ := hM.out.f q hqn
    have hf := (HR.out.1.cell (p := ⟨sb, _, none⟩) hsl).trans hf
    have HRV := Lib.hid (hrv.stay HR.out.1)
    have HN := Lib.hid HR.out.2.2
    obtain ⟨d, hdd⟩ : ∃ d, dfn c q = d := ⟨_, rfl⟩
    rw [hdd] at hd
    have HDD := Lib.hid hdd
    obtain ⟨t, htt⟩ : ∃ t, tg q = t := ⟨_, rfl⟩
    rw [htt] at ht
    have HTT := Lib.hid htt
    clear hdd htt hrv c1
    by_cases hdr : d = r
    · have hb : (d != r) = false := by simp [hdr]
      have hqs : q = s := by
        cases HN.out with
        | stop _ => rfl
        | back h1 _ _ => exact absurd (HDD.out.trans hdr) h1
      have HQS := Lib.hid hqs
      clear hf hqs
      go_wp2
      go_ret
      exact ⟨by rw [HQS.out]; rfl, HR.out.1⟩
    · have hb : (d != r) = true := by simp [hdr]
      cases t with
      | true =>
        have hqs : q = s := by
          cases HN.out with
          | stop _ => rfl
          | back _ h2 _ => rw [HTT.out] at h2; cases h2
        have HQS := Lib.hid hqs
        clear hf hqs
        go_wp2
        go_ret
        exact ⟨by rw [HQS.out]; rfl, HR.out.1⟩
      | false =>
        obtain ⟨k', hk', hnx⟩ : ∃ k', k = k' + 1 ∧ SrcN c fr tg r k' (pd fr q) s := by
          cases HN.out with
          | stop h =>
            rcases h with h | h
            · exact absurd (HDD.out.symm.trans h) hdr
            · rw [HTT.out] at h; cases h
          | back _ _ h => exact ⟨_, rfl, h⟩
        have hex : ∃ z, fr q = [z] ∧ Rc c z := by
          cases HR.out.2.1 with
          | zero h0 => have := hS.out.zero h0; rw [HTT.out] at this; cases this
          | @on i _ hi hj => exact ⟨i, (hS.out.pd (.on hi hj) HTT.out hi hj).2, hi⟩
        obtain ⟨z, hz, hzr⟩ := hex
        have hpz : pd fr q = z := by unfold pd; rw [hz]; rfl
        rw [hpz] at hnx
        rw [hz] at hf HRV
        obtain ⟨gf, of_, e1, hgf, iz⟩ := HRV.out 0 (by simp)
        subst e1
        have elv : lv [z] 0 = .int .i64 (z : Int) := rfl
        rw [elv, Nat.add_zero] at iz
        have HNX := Lib.hid (And.intro hnx hzr)
        have HK' := Lib.hid hk'
        have HKQ := Lib.hid (srcK_eq HN.out)
        have HKZ := Lib.hid (srcK_eq hnx)
        simp only [List.length_cons, List.length_nil] at hf
        clear hz hpz hnx hzr elv hk'
        go_wp2
        go_roundw
        case rel => exact ⟨z, k', rfl, Lib.hid ⟨below_like HR.out.1 rfl rfl rfl rfl, HNX.out.2, HNX.out.1⟩⟩
        case measure =>
          show srcK c fr tg r z < srcK c fr tg r q
          rw [HKQ.out, HKZ.out, HK'.out]
          omega
end Go.Proofs.YtgdhgipofaaogaaDoor
namespace Go.Proofs.YtgdhgipofaaogaaDoor
open Go Go.RowKit Gm Go.ChangeMaps

/-- The steps, in blocks that are nobody's. -/
structure StO (own : Nat → Ob) (W : World) (sb n : Nat) (c : List Ic) (rc tg : Nat → Bool) (fr : Nat → List Nat) : Prop where
  st : StM W sb n c rc tg fr
  os : own sb = .no
  of : ∀ i p k cap, W.cell? ⟨sb, i, none⟩ = some (.slice (some p) k cap) → own p.block = .no ∧ p.block < W.heap.size
theorem StO.ch {own own' : Nat → Ob} {W X : World} {sb n : Nat} {c : List Ic} {rc tg : Nat → Bool} {fr : Nat → List Nat} {S : Nat → Prop} (h : StO own W sb n c rc tg fr) (hc : Ch S W X) (ho : ∀ b, b < W.heap.size → own' b = own b) (hS : ∀ b, own b = .no → ¬ S b) : StO own' X sb n c rc tg fr := by
  have hcl : ∀ i, X.cell? ⟨sb, i, none⟩ = W.cell? ⟨sb, i, none⟩ := fun i => hc.cell h.st.sl (hS _ h.os)
  refine ⟨⟨Nat.lt_of_lt_of_le h.st.sl hc.size, fun i hi => (hcl _).trans (h.st.r i hi), fun i hi => (hcl _).trans (h.st.t i hi), fun i hi => ?_, fun i hi hr => (hcl _).trans (h.st.d i hi hr), fun i hi hr => ?_⟩, by rw [ho _ h.st.sl]; exact h.os, fun i p k cap e => ?_⟩
  · obtain ⟨p, cap, h1, h2⟩ := h.st.f i hi
    exact ⟨p, cap, (hcl _).trans h1, h2.ch hc fun a e => hS _ (h.of _ a _ cap (by rw [h1, e])).1⟩
  · obtain ⟨p, cap, h1, h2⟩ := h.st.nn i hi hr
    exact ⟨p, cap, (hcl _).trans h1, h2.ch hc fun a e => hS _ (h.of _ a _ cap (by rw [h1, e])).1⟩
  · rw [hcl] at e
    obtain ⟨h1, h2⟩ := h.of i p k cap e
    exact ⟨by rw [ho _ h2]; exact h1, Nat.lt_of_lt_of_le h2 hc.size⟩
/-- A block of five cells: a step's variable. -/
def Sb5 (X : World) (m : Nat) (v0 v1 v2 v3 v4 : Value) : Prop := X.heap[m]? = some (.cells #[v0, v1, v2, v3, v4] 75 (0, 0))
theorem Sb5.facts {X : World} {m : Nat} {v0 v1 v2 v3 v4 : Value} (h : Sb5 X m v0 v1 v2 v3 v4) : m < X.heap.size ∧ X.cell? ⟨m, 3, none⟩ = some v3 ∧ X.cell? ⟨m, 4, none⟩ = some v4 := by
  refine ⟨(Array.getElem?_eq_some_iff.1 h).1, ?_, ?_⟩ <;> rw [cell_of_row _ _ _ _ _ _ h] <;> rfl
/-- What is asked for, and what waits to tell, when a lead is laid. -/
def laskL (c : List Ic) (Ld : Nat → Int → List Nat) (a : Nat) (r : Int) : List Int := if Ld a r ≠ [] then [] else if a = 0 ∨ (dfn c a = r ∧ nds c a = []) then [] else if dfn c a = r then nds c a else [r]
def lwayL (c : List Ic) (Ld : Nat → Int → List Nat) (a : Nat) (r : Int) : List Int := if Ld a r ≠ [] then [] else if a = 0 ∨ (dfn c a = r ∧ nds c a = []) then [r] else []
def LeadP (B : Nat) (own : Nat → Ob) (W : World) (g lb n ra rw : Nat) (F : Nat → Value) (Lf : Nat → KF) (Ld : Nat → Int → List Nat) (PA : List Nat) (RA : Nat → List Int) (PW : List Nat) (RW : Nat → List Int) (c : List Ic) (a : Nat) (r : Int) (q : Nat) (e : Ending) (w' : World) : Prop :=
  ∃ (v : Value) (own' : Nat → Ob) (F' LV' VA' VW' : Nat → Value) (Lf' : Nat → KF), e = .returned v ∧ (∀ b, b < W.heap.size → own' b = own b) ∧ (∀ i, i ≠ 4 → i ≠ 6 → F' i = F i) ∧ LA B own' w' g lb n ra rw F' LV' VA' VW' Lf' (putL Ld a r q) (puts a (laskL c Ld a r) (PA, RA)).1 (puts a (laskL c Ld a r) (PA, RA)).2 (puts a (lwayL c Ld a r) (PW, RW)).1 (puts a (lwayL c Ld a r) (PW, RW)).2 ∧ (∀ i s, Lf' i s ≠ none → Lf i s ≠ none ∨ (i = a ∧ s = r)) ∧ Ch (LS own) W w'
theorem puts_len (a : Nat) (l : List Int) (x : List Nat × (Nat → List Int)) : (puts a l x).1.length ≤ x.1.length + l.length ∧ ((puts a l x).2 a).length = (x.2 a).length + l.length := by
  induction l generalizing x with
  | nil => exact ⟨Nat.le_refl _, rfl⟩
  | cons r l ih =>
    obtain ⟨h1, h2⟩ := ih (putP x.1 x.2 a, putR x.2 a r)
    have e1 : (putP x.1 x.2 a).length ≤ x.1.length + 1 := by
      unfold putP
      split
      · simp
      · omega
    have e2 : (putR x.2 a r a).length = (x.2 a).length + 1 := by
      unfold putR
      simp
    simp only at h1 h2
    refine ⟨?_, ?_⟩
    · show (puts a l (putP x.1 x.2 a, putR x.2 a r)).1.length ≤ _
      rw [List.length_cons]
      omega
    · show ((puts a l (putP x.1 x.2 a, putR x.2 a r)).2 a).length = _
      rw [h2, e2, List.length_cons]
      omega
theorem wpOp_putK {ops : Array Oper} {Q : Exit → Act → World → Prop} {K : Act → World → Prop} {a : Act} {w : World} {j : Nat} {o : Oper} {t e k : TypeId} (d : Option Tmp) (hj : ops[j]? = some o) (hd : o.dst = d) (hw : Region.wanted o (yielded ops a.tmps) = true)
    (m x v : Operand) (hop : o.op = Op.mapUpdate t m x v) (hk : Maps.Keyed Tryd.prog k) (ht : Tryd.prog.underlying t = some (.map k e)) (b n : Nat) (f : KF) (hm : a.eval m = .map (some b)) (h : KM k w b n f) (hn : n < maxLen)
    (s : Int) (val : Value) (hx : a.eval x = .int .i64 s) (hv : a.eval v = val) (hs : keyOf Tryd.prog k (.int .i64 s) = some (.int .i64 s))
    (hK : ∀ w', KM k w' b (n + 1) (f.upd s val) → w.grownBy w' (some b) → K (a.put d undef) w') : wpOp Tryd.prog ops Q j K a w := by
  obtain ⟨w', hrun, h1, h2⟩ := h.run_put hk ht hn hs val
  refine wpOp_skip d hj hd hw ?_ (hK w' h1 h2)
  unfold execOp
  simp [hop, hm, hx, hv, hrun, Result.andThen]
theorem eqlNilL (w : World) : (binOp .eql 101 (.map none) (.map none)).run Tryd.prog w = .ok (.bool true) w := by kernel_rfl
theorem eqlSomeL (b : Nat) (w : World) : (binOp .eql 101 (.map (some b)) (.map none)).run Tryd.prog w = .ok (.bool false) w := by kernel_rfl
set_option maxRecDepth 100000 in
set_option maxHeartbeats 4000000 in
theorem lead_c {B : Nat} {own : Nat → Ob} {W : World} {g lb sb n a q ra rw : Nat} {F LV VA VW : Nat → Value} {Lf : Nat → KF} {Ld : Nat → Int → List Nat} {PA PW : List Nat} {RA RW : Nat → List Int} {r : Int} {L : List Int} {c : List Ic} {rc tg : Nat → Bool} {fr : Nat → List Nat} (hA : Hid (LA B own W g lb n ra rw F LV VA VW Lf Ld PA RA PW RW)) (hF1 : F 1 = .slice (some ⟨sb, 0, none⟩) n n) (hM : Hid (StO own W sb n c rc tg fr)) (hra : rc a = true) (ha : a < n) (hn : n ≤ 5000) (hr : In6 r) (hB : B ≤ W.heap.size) (hLd : (Ld a r).length ≤ 1000000) (hPA : PA.length ≤ 500000) (hRA : (RA a).length ≤ 500000) (hPW : PW.length ≤ 500000) (hRW : (RW a).length ≤ 500000) (hLk : Hid (∀ s, Lf a s ≠ none → s ∈ L)) (hLl : L.length ≤ 1000000) (hndl : (nds c a).length ≤ 1000) : Calls Tryd.prog 42 #[.pointer (some ⟨g, 0, none⟩), .int .i64 a, .int .i64 r, .int .i64 q] W (LeadP B own W g lb n ra rw F Lf Ld PA RA PW RW c a r q) := by
  have hF := Lib.hid hA.out.fv
  have hF3 := hA.out.f3
  have hL := Lib.hid hA.out.lm
  have hog := hA.out.og
  have hmm := @run_makeMap Tryd.prog
  have qn := eqlNilL
  have qs := eqlSomeL
  have hg0 := hF.out.lt
  have c3 := hF.out.cell (i := 3) (by omega)
  rw [hF3] at c3
  have c1 := hF.out.cell (i := 1) (by omega)
  rw [hF1] at c1
  have hlb := hL.out.fv.lt
  have ck := hL.out.fv.cell ha
  have hgk : g ≠ lb := fun e => by have h1 := hL.out.olb; rw [← e, hog] at h1; cases h1
  have hLm : L.length < maxLen := by unfold maxLen; omega
  rcases hL.out.mp a ha with ⟨h1, h2⟩ | ⟨m, cnt, h1, h2, h3⟩
  · have HN := Lib.hid (hL.out.new ha h1)
    have zk := hL.out.fv.frozen a
    rw [h1] at ck
    clear h1 h2
    go_enter Tryd.func42, Tryd.ntmps42
    go_upto_region 2 with (fail)
    refine name_world ?_
    intro W1 hW1
    obtain ⟨m, hm⟩ : ∃ m, W.heap.size = m := ⟨_, rfl⟩
    have HOM : Hid (∀ b, b < W.heap.size → ownM own m (.lm a) b = own b) := Lib.hid fun b hb => ownM_of (by omega)
    have HCk : Hid (Ch (fun z => z = lb) W W1) := Lib.hid (by rw [hW1]; exact ((Ch.refl (fun z => z = lb) W).set (.inl rfl) _ _).alloc _)
    have HLN : Hid (LMm B (ownM own m (.lm a)) W1 lb n (upd LV a (.map (some m))) Lf Ld) := Lib.hid (by rw [hW1, ← hm]; exact HN.out)
    have HA1 := Lib.hid (LA.mk (B := B) (W := W1) (g := g) (ra := ra) (rw := rw) (F := F) (VA := VA) (VW := VW) (PA := PA) (RA := RA) (PW := PW) (RW := RW) ((HOM.out g hg0).trans hog) (hF.out.ch HCk.out hgk) hF3 hA.out.f5 hA.out.f7 HLN.out (hA.out.qa.ch HCk.out HOM.out fun b hb e => by rw [e, hL.out.olb] at hb; rcases hb with h | h | ⟨i, h⟩ <;> cases h) (hA.out.qw.ch HCk.out HOM.out fun b hb e => by rw [e, hL.out.olb] at hb; rcases hb with h | h | ⟨i, h⟩ <;> cases h))
    have HM1 := Lib.hid (hM.out.ch HCk.out HOM.out fun b hb e => by rw [e, hL.out.olb] at hb; cases hb)
    have hom : ownM own m (.lm a) m = .lm a := ownM_at
    have e1 : upd LV a (.map (some m)) a = .map (some m) := upd_at ..
    obtain ⟨own1, ho1⟩ : ∃ o, ownM own m (.lm a) = o := ⟨_, rfl⟩
    obtain ⟨LV1, hLV1⟩ : ∃ o, upd LV a (.map (some m)) = o := ⟨_, rfl⟩
    rw [ho1] at HA1 HM1 HOM hom
    rw [hLV1] at HA1 e1
    have HF1 := Lib.hid HA1.out.fv
    have HL1 := Lib.hid HA1.out.lm
    have hog1 := HA1.out.og
    have hg1 := HF1.out.lt
    have hlb1 := HL1.out.fv.lt
    have ck1 := HL1.out.fv.cell ha
    rw [e1] at ck1
    have c3 := HF1.out.cell (i := 3) (by omega)
    rw [hF3] at c3
    have HOW1 : Hid (∀ b, b < W.heap.size → b < W1.heap.size ∧ own1 b = own b) := Lib.hid fun b hb => ⟨Nat.lt_of_lt_of_le hb HCk.out.size, HOM.out b hb⟩
    have HCW : Hid (Ch (LS own) W W1) := Lib.hid (HCk.out.mono fun z _ e => .inr (.inl (e ▸ hL.out.olb)))
    have hB1 : B ≤ W1.heap.size := Nat.le_trans hB HCW.out.size
    obtain ⟨cnt, hkm⟩ : ∃ cnt, KM 3 W1 m cnt (Lf a) := by
      rcases HL1.out.mp a ha with ⟨h1, -⟩ | ⟨m', cnt, h1, -, h3⟩
      · rw [e1] at h1; cases h1
      · rw [e1] at h1; cases h1; exact ⟨cnt, h3⟩
    have HKM := Lib.hid (hkm.within L hLk.out)
    have hmW := hkm.lt
    try rw [hm]
    have HMS := Lib.hid hm
    clear hW1 zk ck c1 hlb hm HN hkm hLV1 ho1
    have ck := ck1
    have hrow := HL1.out.row ha r
    obtain ⟨p0, k0, e0⟩ := hrow.1.form
    have HNM := Lib.hid (show In6 r from hr)
    have hlk := HL1.out.look ha hr
    rw [e1] at hlk
    have hng : ¬ (g = m ∨ (lfv Lf a r).ownBlock = some g) := fun h => by
      rcases h with h | h
      · rw [← h, hog1] at hom; cases hom
      · have h1 := hrow.2 g h; rw [hog1] at h1; cases h1
    have hnl : ¬ (lb = m ∨ (lfv Lf a r).ownBlock = some lb) := fun h => by
      rcases h with h | h
      · have h1 := HL1.out.olb; rw [h, hom] at h1; cases h1
      · have h1 := hrow.2 lb h; rw [HL1.out.olb] at h1; cases h1
    have hnm : (lfv Lf a r).ownBlock ≠ some m := fun e => by have h1 := hrow.2 m e; rw [hom] at h1; cases h1
    obtain ⟨z0, hz0⟩ : ∃ z, lfv Lf a r = z := ⟨_, rfl⟩
    rw [hz0] at hlk hrow hng hnl hnm e0
    rw [List.length_map] at e0
    subst e0
    have HZ := Lib.hid hz0
    have HROW := Lib.hid hrow
    clear hz0 hrow
    go_upto_region 3 with (fail)
    refine region_held1 (fun w' => Ch (fun z => z = m ∨ (Value.slice p0 (Ld a r).length k0).ownBlock = some z) W1 w') (by kernel_rfl) ?_
    show wpAnyH _ _ _ _ _ 13 _ _ _
    have hS0 : Ch (fun z => z = m ∨ (Value.slice p0 (Ld a r).length k0).ownBlock = some z) W1 W1.drew := Ch.of (below_drew1 _)
    refine takeH (i := 0) (v := .pointer (some ⟨g, 0, none⟩)) (some 36) rfl rfl (by kernel_rfl) (by kernel_rfl) (by kernel_rfl) (Or.inl ⟨by rfl, ?_⟩) hS0 ?_
    · intro y1 hS1
      go_simp
    simp only [Act.put, List.setIfInBounds_toArray, List.set_cons_zero, List.set_cons_succ]
    refine takeH (i := 1) (v := .pointer (some ⟨g, 0, none⟩)) (some 37) rfl rfl (by kernel_rfl) (by kernel_rfl) (by kernel_rfl) (Or.inl ⟨by rfl, ?_⟩) hS0 ?_
    · intro y1 hS1
      go_simp
    simp only [Act.put, List.setIfInBounds_toArray, List.set_cons_zero, List.set_cons_succ]
    refine takeH (i := 2) (v := .pointer (some ⟨g, 3, none⟩)) (some 38) rfl rfl (by kernel_rfl) (by kernel_rfl) (by kernel_rfl) (Or.inl ⟨by rfl, ?_⟩) hS0 ?_
    · intro y1 hS1
      go_simp
    simp only [Act.put, List.setIfInBounds_toArray, List.set_cons_zero, List.set_cons_succ]
    refine takeH (i := 3) (v := .slice (some ⟨lb, 0, none⟩) n n) (some 39) rfl rfl (by kernel_rfl) (by kernel_rfl) (by kernel_rfl) (Or.inl ⟨by rfl, ?_⟩) hS0 ?_
    · intro y1 hS1
      have c3 := (hS1.cell (b := g) hg1 hng).trans c3
      go_simp
    simp only [Act.put, List.setIfInBounds_toArray, List.set_cons_zero, List.set_cons_succ]
    refine takeH (i := 4) (v := .int .i64 (a : Int)) (some 40) rfl rfl (by kernel_rfl) (by kernel_rfl) (by kernel_rfl) (Or.inl ⟨by rfl, ?_⟩) hS0 ?_
    · intro y1 hS1
      go_simp
    simp only [Act.put, List.setIfInBounds_toArray, List.set_cons_zero, List.set_cons_succ]
    refine takeH (i := 5) (v := .pointer (some ⟨lb, a, none⟩)) (some 41) rfl rfl (by kernel_rfl) (by kernel_rfl) (by kernel_rfl) (Or.inl ⟨by rfl, ?_⟩) hS0 ?_
    · intro y1 hS1
      go_simp
    simp only [Act.put, List.setIfInBounds_toArray, List.set_cons_zero, List.set_cons_succ]
    refine takeH (i := 6) (v := .map (some m)) (some 42) rfl rfl (by kernel_rfl) (by kernel_rfl) (by kernel_rfl) (Or.inl ⟨by rfl, ?_⟩) hS0 ?_
    · intro y1 hS1
      have ck1 := (hS1.cell (b := lb) hlb1 hnl).trans ck1
      go_simp
    simp only [Act.put, List.setIfInBounds_toArray, List.set_cons_zero, List.set_cons_succ]
    refine takeH (i := 7) (v := .int .i64 r) (some 43) rfl rfl (by kernel_rfl) (by kernel_rfl) (by kernel_rfl) (Or.inl ⟨by rfl, ?_⟩) hS0 ?_
    · intro y1 hS1
      go_simp
    simp only [Act.put, List.setIfInBounds_toArray, List.set_cons_zero, List.set_cons_succ]
    refine takeH (i := 8) (v := .slice p0 (Ld a r).length k0) (some 44) rfl rfl (by kernel_rfl) (by kernel_rfl) (by kernel_rfl) (Or.inl ⟨by rfl, ?_⟩) hS0 ?_
    · intro y1 hS1
      go_simp
    simp only [Act.put, List.setIfInBounds_toArray, List.set_cons_zero, List.set_cons_succ]
    refine takeH (i := 9) (v := .int .i64 (q : Int)) (some 45) rfl rfl (by kernel_rfl) (by kernel_rfl) (by kernel_rfl) (Or.inl ⟨by rfl, ?_⟩) hS0 ?_
    · intro y1 hS1
      go_simp
    simp only [Act.put, List.setIfInBounds_toArray, List.set_cons_zero, List.set_cons_succ]
    refine wpAnyH_all (rs := [10]) (by kernel_rfl) (by simp) ?_
    intro i1 hi1
    obtain rfl : i1 = 10 := by simpa using hi1
    refine wpOp_val (w' := W1.drew.alloc (.cells #[.int .i64 (q : Int)] 3)) (v := .slice (some ⟨W1.drew.heap.size, 0, none⟩) 1 1) (some 46) rfl rfl (by rfl) (by go_simp) ?_
    refine ⟨hS0.alloc _, ?_⟩
    simp only [Act.put, List.setIfInBounds_toArray, List.set_cons_zero, List.set_cons_succ]
    refine wpAnyH_all (rs := [11]) (by kernel_rfl) (by simp) ?_
    intro i2 hi2
    obtain rfl : i2 = 11 := by simpa using hi2
    refine wpOp_sr (B := B) (some 47) rfl rfl (by rfl) _ _ 64 rfl Tryd.underlying64 (.slice p0 (Ld a r).length k0) ((Ld a r).map Int.ofNat) rfl (HROW.out.1.stay ((below_drew1 _).alloc (Nat.le_refl _) _)) (by simp; omega) (by rw [List.length_map]; omega) ⟨W1.drew.heap.size, 0, none⟩ 1 (q : Int) rfl (by rw [Addr.add_zero', cell_of_row _ _ _ _ _ _ (heap_alloc_new _ _)]; rfl) ?_
    intro v4 w4 hsr hgr4 hat4
    obtain ⟨p4, k4, e4⟩ := hsr.form
    subst e4
    have hS4 : Ch (fun z => z = m ∨ (Value.slice p0 (Ld a r).length k0).ownBlock = some z) W1 w4 := (hS0.alloc _).grown hgr4 fun z e => .inl (.inr e)
    refine ⟨hS4, ?_⟩
    simp only [Act.put, List.setIfInBounds_toArray, List.set_cons_zero, List.set_cons_succ]
    refine wpAnyH_all (rs := [12]) (by kernel_rfl) (by simp) ?_
    intro i3 hi3
    obtain rfl : i3 = 12 := by simpa using hi3
    have HKM4 : Hid (KM 3 w4 m L.length (Lf a)) := Lib.hid (((HKM.out.same (((below_drew1 W1).alloc (Nat.le_refl _) _).block m hmW)).same (hgr4.block m (by simpa using Nat.lt_succ_of_lt hmW) fun e => hnm e.symm)))
    refine wpOp_putK none rfl rfl (by rfl) (.tmp 42) (.tmp 43) (.tmp 47) rfl keyedI Tryd.underlying101 m L.length (Lf a) rfl HKM4.out hLm r _ rfl rfl (keyI hr) ?_
    intro w5 hk5 hg5
    have hS5 : Ch (fun z => z = m ∨ (Value.slice p0 (Ld a r).length k0).ownBlock = some z) W1 w5 := hS4.grown hg5 fun b e => .inl (.inl (by cases e; rfl))
    refine ⟨hS5, ?_⟩
    simp only [Act.put, List.setIfInBounds_toArray, List.set_cons_zero, List.set_cons_succ]
    refine wpAnyH_done (by kernel_rfl) ?_ _
    refine ⟨rfl, ?_⟩
    have hat5 : (Value.slice p4 ((Ld a r).map Int.ofNat ++ [(q : Int)]).length k4).ownBlock = (lfv Lf a r).ownBlock ∨ ∃ g, (Value.slice p4 ((Ld a r).map Int.ofNat ++ [(q : Int)]).length k4).ownBlock = some g ∧ W1.heap.size ≤ g := by
      rw [HZ.out]
      exact hat4.imp id fun ⟨z, e, h⟩ => ⟨z, e, by simp at h; omega⟩
    have HL5 := Lib.hid (HL1.out.push (q := q) ha e1 hom (by rw [HZ.out]; exact ((Ch.of (below_drew1 _)).alloc _).grown hgr4 fun z e => .inl e) (by rw [List.map_append]; exact hsr) hat5 hk5 hg5 hmW)
    have HM5 : Hid (StO (ownN own1 W1.heap.size (Value.slice p4 ((Ld a r).map Int.ofNat ++ [(q : Int)]).length k4) (.lr a r)) w5 sb n c rc tg fr) := Lib.hid (HM1.out.ch hS5 (fun b hb => ownN_old hb) fun b hb h => by
      rcases h with h | h
      · rw [h, hom] at hb; cases hb
      · have h1 := HROW.out.2 b h; rw [hb] at h1; cases h1)
    have HF5 : Hid (FV 69 w5 g 8 F) := Lib.hid (HF1.out.ch hS5 hng)
    have hsl5 := HM5.out.st.sl
    have hg5l := HF5.out.lt
    have d1 := HF5.out.cell (i := 1) (by omega)
    rw [hF1] at d1
    have t0 := HM5.out.st.r a ha
    have t1 := HM5.out.st.t a ha
    obtain ⟨pf, kf, t2, hvf⟩ := HM5.out.st.f a ha
    have t3 := HM5.out.st.d a ha hra
    obtain ⟨pn, kn, t4, hvn⟩ := HM5.out.st.nn a ha hra
    rw [hra] at t0
    have HVN := Lib.hid hvn
    have hS5n : ∀ b, (∃ k, own1 b = .qr k ∨ own1 b = .qp k ∨ ∃ i, own1 b = .q k i) → ¬ (b = m ∨ (Value.slice p0 (Ld a r).length k0).ownBlock = some b) := fun b ⟨k, hb⟩ h => by
      rcases h with h | h
      · rw [h, hom] at hb; rcases hb with e | e | ⟨i, e⟩ <;> cases e
      · have h1 := HROW.out.2 b h; rw [h1] at hb; rcases hb with e | e | ⟨i, e⟩ <;> cases e
    have HA5 := Lib.hid (LA.mk (B := B) (W := w5) (g := g) (ra := ra) (rw := rw) (F := F) (VA := VA) (VW := VW) (PA := PA) (RA := RA) (PW := PW) (RW := RW) ((ownN_old hg1).trans hog1) HF5.out hF3 hA.out.f5 hA.out.f7 HL5.out (HA1.out.qa.ch hS5 (fun b hb => ownN_old hb) fun b hb => hS5n b ⟨4, hb⟩) (HA1.out.qw.ch hS5 (fun b hb => ownN_old hb) fun b hb => hS5n b ⟨6, hb⟩))
    have HC5 : Hid (Ch (LS own1) W1 w5) := Lib.hid (hS5.mono fun z _ h => by
      rcases h with h | h
      · exact .inr (.inr (.inl ⟨a, h ▸ hom⟩))
      · exact .inr (.inr (.inr (.inl ⟨a, r, HROW.out.2 z h⟩))))
    clear hS5n
    clear hvf hvn hk5 hg5 hS5 hat5 hsr hgr4 hat4 hS4 hS0 c3 ck ck1
    go_upto_region 6 with (fail)
    refine name_world ?_
    intro V1 hV1
    obtain ⟨m5, hm5⟩ : ∃ x, w5.heap.size = x := ⟨_, rfl⟩
    have HV1 : Hid (Sb5 V1 m5 (.bool true) (.bool (tg a)) (.slice pf (fr a).length kf) (.int .i64 (dfn c a)) (.slice pn (nds c a).length kn)) := Lib.hid (by rw [hV1, ← hm5]; exact heap_alloc_new w5 _)
    have HC6 : Hid (Ch (fun _ => False) w5 V1) := Lib.hid (by rw [hV1]; exact (Ch.refl (fun _ => False) w5).alloc _)
    have HA6 := Lib.hid (HA5.out.ch HC6.out (fun _ _ => rfl) (fun _ _ h => h))
    have HVN6 := Lib.hid (HVN.out.ch HC6.out fun _ _ h => h)
    try rw [hm5]
    obtain ⟨own2, ho2⟩ : ∃ x, ownN own1 W1.heap.size (Value.slice p4 ((Ld a r).map Int.ofNat ++ [(q : Int)]).length k4) (.lr a r) = x := ⟨_, rfl⟩
    have HO2 : Hid (∀ b, b < W1.heap.size → own2 b = own1 b) := Lib.hid fun b hb => by rw [← ho2]; exact ownN_old hb
    rw [ho2] at HA6
    obtain ⟨Lf2, hLf2⟩ : ∃ x, (fun i => if i = a then KF.upd (Lf a) r (Value.slice p4 ((Ld a r).map Int.ofNat ++ [(q : Int)]).length k4) else Lf i) = x := ⟨_, rfl⟩
    rw [hLf2] at HA6
    have HLf2 : Hid (∀ i s, Lf2 i s ≠ none → Lf i s ≠ none ∨ (i = a ∧ s = r)) := Lib.hid fun i s h => by
      rw [← hLf2] at h
      by_cases hi : i = a
      · subst hi
        by_cases hs : s = r
        · exact .inr ⟨rfl, hs⟩
        · simp [KF.upd, hs] at h
          exact .inl h
      · simp [hi] at h
        exact .inl h
    have HC7 : Hid (Ch (LS own1) W1 V1) := Lib.hid (HC5.out.trans (HC6.out.mono fun _ _ h => h.elim))
    have HB7 : Hid (B ≤ V1.heap.size) := Lib.hid (Nat.le_trans hB1 HC7.out.size)
    have HEND : Hid (∀ (v : Value) (X : World) (own' : Nat → Ob) (F' VA' VW' : Nat → Value) (asks ways : List Int), asks = laskL c Ld a r → ways = lwayL c Ld a r → (∀ b, b < V1.heap.size → own' b = own2 b) → (∀ i, i ≠ 4 → i ≠ 6 → F' i = F i) → LA B own' X g lb n ra rw F' LV1 VA' VW' Lf2 (putL Ld a r q) (puts a asks (PA, RA)).1 (puts a asks (PA, RA)).2 (puts a ways (PW, RW)).1 (puts a ways (PW, RW)).2 → Ch (LS own2) V1 X → LeadP B own W g lb n ra rw F Lf Ld PA RA PW RW c a r q (.returned v) X) := Lib.hid fun v X own' F' VA' VW' asks ways e1 e2 h1 h2 h3 h4 => by
      subst e1 e2
      refine ⟨v, own', F', LV1, VA', VW', Lf2, rfl, fun b hb => ?_, h2, h3, HLf2.out, ?_⟩
      · have hb1 := HOW1.out b hb
        rw [h1 b (Nat.lt_of_lt_of_le hb1.1 HC7.out.size), HO2.out b hb1.1, hb1.2]
      · refine Ch.fresh HCW.out (Ch.fresh HC7.out h4 fun b hb h => ?_) fun b hb h => ?_
        · unfold LS at h ⊢
          rw [HO2.out b hb] at h
          exact h
        · unfold LS at h ⊢
          rw [(HOW1.out b hb).2] at h
          exact h
    have HNO : Hid (∀ ad, pn = some ad → own2 ad.block = .no) := Lib.hid fun ad e => by rw [← ho2]; exact (HM5.out.of _ ad _ kn (e ▸ t4)).1
    clear hV1 hm5 t0 t1 t2 t3 t4 d1 hsl5 hg5l ho2 hLf2
    have HPUTW : Hid (Calls Tryd.prog 20 #[.pointer (some ⟨g, 6, none⟩), .int .i64 a, .int .i64 r] V1 (PutP B own2 V1 g 6 n rw F VW PW RW a r)) := Lib.hid (put_c (Lib.hid HA6.out.fv) HA6.out.f7 (by omega) (Lib.hid HA6.out.qw) HA6.out.og ha hn HB7.out (by omega) (by omega))
    have HPUTA : Hid (Calls Tryd.prog 20 #[.pointer (some ⟨g, 4, none⟩), .int .i64 a, .int .i64 r] V1 (PutP B own2 V1 g 4 n ra F VA PA RA a r)) := Lib.hid (put_c (Lib.hid HA6.out.fv) HA6.out.f5 (by omega) (Lib.hid HA6.out.qa) HA6.out.og ha hn HB7.out (by omega) (by omega))
    have hgl6 := HA6.out.fv.lt
    obtain ⟨bm, u3, u4⟩ := HV1.out.facts
    have HENDW : Hid (Ld a r = [] → a = 0 ∨ (dfn c a = r ∧ nds c a = []) → ∀ (e : Ending) (X : World), PutP B own2 V1 g 6 n rw F VW PW RW a r e X → LeadP B own W g lb n ra rw F Lf Ld PA RA PW RW c a r q (.returned (.tuple #[])) X) := Lib.hid fun hnil hw e X hp => by
      obtain ⟨v0, own', F', VW', -, h1, h2, h3, h4⟩ := HA6.out.putW hp
      exact HEND.out _ X own' F' VA VW' [] [r] (by simp [laskL, hnil, hw]) (by simp [lwayL, hnil, hw]) h1 h2 h3 h4
    have HENDA : Hid (Ld a r = [] → ¬ a = 0 → dfn c a ≠ r → ∀ (e : Ending) (X : World), PutP B own2 V1 g 4 n ra F VA PA RA a r e X → LeadP B own W g lb n ra rw F Lf Ld PA RA PW RW c a r q (.returned (.tuple #[])) X) := Lib.hid fun hnil h0 hd e X hp => by
      obtain ⟨v0, own', F', VA', -, h1, h2, h3, h4⟩ := HA6.out.putA hp
      exact HEND.out _ X own' F' VA' VW [r] [] (by simp [laskL, hnil, h0, hd]) (by simp [lwayL, hnil, h0, hd]) h1 h2 h3 h4
    have HEND0 : Hid (Ld a r ≠ [] → LeadP B own W g lb n ra rw F Lf Ld PA RA PW RW c a r q (.returned (.tuple #[])) V1) := Lib.hid fun hnil => HEND.out _ V1 own2 F VA VW [] [] (by simp [laskL, hnil]) (by simp [lwayL, hnil]) (fun _ _ => rfl) (fun _ _ _ => rfl) HA6.out (Ch.refl _ _)
    by_cases hnil : Ld a r = []
    · have hzero : (Ld a r).length = 0 := by rw [hnil]; rfl
      have HNIL := Lib.hid hnil
      clear hnil
      have hlt0 : decide (0 < (Ld a r).length) = false := by rw [hzero]; rfl
      by_cases h0 : a = 0
      · have h0b : ((a : Int) == 0) = true := by simp [h0]
        have H0 := Lib.hid h0
        clear h0
        go_upto_region 8 with (fail)
        go_wp2_with (go_at_call 20; (with_reducible refine (HPUTW.out).mono ?_); rintro e2 w2 hp; obtain ⟨v0, rfl⟩ : ∃ v0, e2 = .returned v0 := (by obtain ⟨v0, _, _, _, h, _⟩ := hp; exact ⟨v0, h⟩); have HP := Lib.hid hp; clear hp)
        exact bodyPost_ret (results_none rfl _ _ _) rfl (HENDW.out HNIL.out (.inl H0.out) _ _ HP.out)
      · have h0b : ((a : Int) == 0) = false := by simp [h0]
        have H0 := Lib.hid h0
        clear h0
        by_cases hd : dfn c a = r
        · have hdb : (dfn c a == r) = true := by simp [hd]
          have HD := Lib.hid hd
          clear hd
          by_cases hnd : nds c a = []
          · have hnb : (((nds c a).length : Int) == 0) = true := by simp [hnd]
            have HND := Lib.hid hnd
            clear hnd
            go_upto_region 8 with (fail)
            go_wp2_with (go_at_call 20; (with_reducible refine (HPUTW.out).mono ?_); rintro e2 w2 hp; obtain ⟨v0, rfl⟩ : ∃ v0, e2 = .returned v0 := (by obtain ⟨v0, _, _, _, h, _⟩ := hp; exact ⟨v0, h⟩); have HP := Lib.hid hp; clear hp)
            exact bodyPost_ret (results_none rfl _ _ _) rfl (HENDW.out HNIL.out (.inr ⟨HD.out, HND.out⟩) _ _ HP.out)
          · have hnb : (((nds c a).length : Int) == 0) = false := by simp [hnd]
            have HND := Lib.hid hnd
            clear hnd
            go_upto_region 11 with (fail)
            clear u3 u4 bm hgl6 hzero hlt0 h0b hdb hnb
            obtain ⟨n4, hn4⟩ : ∃ x, (List.map Int.ofNat (Ld a r) ++ [(q : Int)]).length = x := ⟨_, rfl⟩
            try rw [hn4]
            obtain ⟨s4, hs4⟩ : ∃ x, W1.drew.heap.size = x := ⟨_, rfl⟩
            try rw [hs4]
            clear hn4 hs4
            obtain ⟨N, hN⟩ : ∃ N, nds c a = N := ⟨_, rfl⟩
            rw [hN] at HVN6 HND hndl
            try rw [hN]
            have HNE := Lib.hid hN
            clear hN
            go_loopw [94] (fun z wr => ∃ (i : Nat) (own' : Nat → Ob) (F' VA' : Nat → Value), z = .int .i64 i ∧ i ≤ N.length ∧ Hid ((∀ b, b < V1.heap.size → own' b = own2 b) ∧ (∀ j, j ≠ 4 → j ≠ 6 → F' j = F j) ∧ LA B own' wr g lb n ra rw F' LV1 VA' VW Lf2 (putL Ld a r q) (puts a (N.take i) (PA, RA)).1 (puts a (N.take i) (PA, RA)).2 PW RW ∧ Ch (LS own2) V1 wr)) (fun z _ => N.length - (intOf z).toNat)
            case atStart => exact ⟨0, own2, F, VA, rfl, Nat.zero_le _, Lib.hid ⟨fun _ _ => rfl, fun _ _ _ => rfl, HA6.out, Ch.refl _ _⟩⟩
            case round =>
              obtain ⟨wo, rfl⟩ : ∃ wo : World, wo = wr := ⟨_, rfl⟩
              obtain ⟨i, own', F', VA', rfl, hi, HI⟩ := hrel
              by_cases hlt : i < N.length
              · obtain ⟨gn, on, ep, hgn, ir⟩ := (HVN6.out.ch HI.out.2.2.2 fun ad e h => by
                  have h1 := HNO.out ad e
                  unfold LS at h
                  rw [h1] at h
                  rcases h with h | h | ⟨_, h⟩ | ⟨_, _, h⟩ | ⟨_, h | h | ⟨_, h⟩⟩ <;> cases h) i hlt
                subst ep
                have elv : iv (fun j => N.getD j 0) i = .int .i64 (N.getD i 0) := rfl
                rw [elv] at ir
                obtain ⟨x, hx⟩ : ∃ x, N.getD i 0 = x := ⟨_, rfl⟩
                rw [hx] at ir
                have HX := Lib.hid hx
                clear hx elv
                have hgl := HI.out.2.2.1.fv.lt
                obtain ⟨l1, l2⟩ := puts_len a (N.take i) (PA, RA)
                have l3 : (N.take i).length ≤ 1000 := by rw [List.length_take]; omega
                have HPUT : Hid (Calls Tryd.prog 20 #[.pointer (some ⟨g, 4, none⟩), .int .i64 a, .int .i64 x] wo (PutP B own' wo g 4 n ra F' VA' (puts a (N.take i) (PA, RA)).1 (puts a (N.take i) (PA, RA)).2 a x)) := Lib.hid (put_c (Lib.hid HI.out.2.2.1.fv) HI.out.2.2.1.f5 (by omega) (Lib.hid HI.out.2.2.1.qa) HI.out.2.2.1.og ha hn (Nat.le_trans HB7.out HI.out.2.2.2.size) (by simp only at l1; omega) (by simp only at l2; omega))
                clear l1 l2 l3
                go_wp2_with (go_at_call 20; (with_reducible refine (HPUT.out).mono ?_); rintro e2 w2 hp; obtain ⟨v0, rfl⟩ : ∃ v0, e2 = .returned v0 := (by obtain ⟨v0, _, _, _, h, _⟩ := hp; exact ⟨v0, h⟩); have HP := Lib.hid hp; clear hp)
                go_roundw
                case rel =>
                  obtain ⟨v1, own3, F3, VA3, -, h1, h2, h3, h4⟩ := HI.out.2.2.1.putA HP.out
                  have et : N.take (i + 1) = N.take i ++ [x] := by
                    rw [List.take_add_one, List.getElem?_eq_getElem hlt, ← HX.out, List.getD_eq_getElem?_getD, List.getElem?_eq_getElem hlt]
                    rfl
                  refine ⟨i + 1, own3, F3, VA3, by go_num, by omega, Lib.hid ⟨fun b hb => (h1 b (Nat.lt_of_lt_of_le hb HI.out.2.2.2.size)).trans (HI.out.1 b hb), fun j j4 j6 => (h2 j j4 j6).trans (HI.out.2.1 j j4 j6), by rw [et, puts_end]; exact h3, Ch.fresh HI.out.2.2.2 h4 fun b hb h => ?_⟩⟩
                  unfold LS at h ⊢
                  rw [HI.out.1 b hb] at h
                  exact h
                case measure => (simp [intOf]; try omega)
              · obtain rfl : i = N.length := by omega
                go_wp2
                refine bodyPost_ret (results_none rfl _ _ _) rfl (HEND.out _ wo own' F' VA' VW (N.take N.length) [] ?_ ?_ HI.out.1 HI.out.2.1 HI.out.2.2.1 HI.out.2.2.2)
                · rw [List.take_length]
                  have hq : ¬ (a = 0 ∨ dfn c a = r ∧ nds c a = []) := fun h => h.elim H0.out fun h => HND.out (HNE.out ▸ h.2)
                  unfold laskL
                  rw [if_neg (by simp [HNIL.out]), if_neg hq, if_pos HD.out, HNE.out]
                · have hq : ¬ (a = 0 ∨ dfn c a = r ∧ nds c a = []) := fun h => h.elim H0.out fun h => HND.out (HNE.out ▸ h.2)
                  unfold lwayL
                  rw [if_neg (by simp [HNIL.out]), if_neg hq]
        · have hdb : (dfn c a == r) = false := by simp [hd]
          have HD := Lib.hid hd
          clear hd
          go_wp2_with (go_at_call 20; (with_reducible refine (HPUTA.out).mono ?_); rintro e2 w2 hp; obtain ⟨v0, rfl⟩ : ∃ v0, e2 = .returned v0 := (by obtain ⟨v0, _, _, _, h, _⟩ := hp; exact ⟨v0, h⟩); have HP := Lib.hid hp; clear hp)
          exact bodyPost_ret (results_none rfl _ _ _) rfl (HENDA.out HNIL.out H0.out HD.out _ _ HP.out)
    · have hpos : 0 < (Ld a r).length := List.length_pos_iff.2 hnil
      have HNIL := Lib.hid hnil
      clear hnil
      go_wp2
      exact bodyPost_ret (results_none rfl _ _ _) rfl (HEND0.out HNIL.out)
  · have HL1 := hL
    have HM1 := hM
    have HA1 := hA
    have HF1 := hF
    obtain ⟨own1, ho1⟩ : ∃ o, own = o := ⟨_, rfl⟩
    obtain ⟨LV1, hLV1⟩ : ∃ o, LV = o := ⟨_, rfl⟩
    have HOW1 : Hid (∀ b, b < W.heap.size → b < W.heap.size ∧ own1 b = own b) := Lib.hid fun b hb => ⟨hb, by rw [ho1]⟩
    have HCW : Hid (Ch (LS own) W W) := Lib.hid (Ch.refl _ _)
    have hB1 := hB
    have e1 := h1
    have hom := h2
    have hog1 := hog
    have ck1 := ck
    rw [h1] at ck1 ck
    have hg1 := hg0
    have hlb1 := hlb
    have HKM := Lib.hid (h3.within L hLk.out)
    have hmW := h3.lt
    clear h1 h2 h3
    rw [ho1] at HM1 HA1 HL1 hom hog1
    rw [hLV1] at HA1 HL1 e1
    go_enter Tryd.func42, Tryd.ntmps42
    have hrow := HL1.out.row ha r
    obtain ⟨p0, k0, e0⟩ := hrow.1.form
    have HNM := Lib.hid (show In6 r from hr)
    have hlk := HL1.out.look ha hr
    rw [e1] at hlk
    have hng : ¬ (g = m ∨ (lfv Lf a r).ownBlock = some g) := fun h => by
      rcases h with h | h
      · rw [← h, hog1] at hom; cases hom
      · have h1 := hrow.2 g h; rw [hog1] at h1; cases h1
    have hnl : ¬ (lb = m ∨ (lfv Lf a r).ownBlock = some lb) := fun h => by
      rcases h with h | h
      · have h1 := HL1.out.olb; rw [h, hom] at h1; cases h1
      · have h1 := hrow.2 lb h; rw [HL1.out.olb] at h1; cases h1
    have hnm : (lfv Lf a r).ownBlock ≠ some m := fun e => by have h1 := hrow.2 m e; rw [hom] at h1; cases h1
    obtain ⟨z0, hz0⟩ : ∃ z, lfv Lf a r = z := ⟨_, rfl⟩
    rw [hz0] at hlk hrow hng hnl hnm e0
    rw [List.length_map] at e0
    subst e0
    have HZ := Lib.hid hz0
    have HROW := Lib.hid hrow
    clear hz0 hrow
    go_upto_region 3 with (fail)
    refine region_held1 (fun w' => Ch (fun z => z = m ∨ (Value.slice p0 (Ld a r).length k0).ownBlock = some z) W w') (by kernel_rfl) ?_
    show wpAnyH _ _ _ _ _ 13 _ _ _
    have hS0 : Ch (fun z => z = m ∨ (Value.slice p0 (Ld a r).length k0).ownBlock = some z) W W.drew := Ch.of (below_drew1 _)
    refine takeH (i := 0) (v := .pointer (some ⟨g, 0, none⟩)) (some 36) rfl rfl (by kernel_rfl) (by kernel_rfl) (by kernel_rfl) (Or.inl ⟨by rfl, ?_⟩) hS0 ?_
    · intro y1 hS1
      go_simp
    simp only [Act.put, List.setIfInBounds_toArray, List.set_cons_zero, List.set_cons_succ]
    refine takeH (i := 1) (v := .pointer (some ⟨g, 0, none⟩)) (some 37) rfl rfl (by kernel_rfl) (by kernel_rfl) (by kernel_rfl) (Or.inl ⟨by rfl, ?_⟩) hS0 ?_
    · intro y1 hS1
      go_simp
    simp only [Act.put, List.setIfInBounds_toArray, List.set_cons_zero, List.set_cons_succ]
    refine takeH (i := 2) (v := .pointer (some ⟨g, 3, none⟩)) (some 38) rfl rfl (by kernel_rfl) (by kernel_rfl) (by kernel_rfl) (Or.inl ⟨by rfl, ?_⟩) hS0 ?_
    · intro y1 hS1
      go_simp
    simp only [Act.put, List.setIfInBounds_toArray, List.set_cons_zero, List.set_cons_succ]
    refine takeH (i := 3) (v := .slice (some ⟨lb, 0, none⟩) n n) (some 39) rfl rfl (by kernel_rfl) (by kernel_rfl) (by kernel_rfl) (Or.inl ⟨by rfl, ?_⟩) hS0 ?_
    · intro y1 hS1
      have c3 := (hS1.cell (b := g) hg1 hng).trans c3
      go_simp
    simp only [Act.put, List.setIfInBounds_toArray, List.set_cons_zero, List.set_cons_succ]
    refine takeH (i := 4) (v := .int .i64 (a : Int)) (some 40) rfl rfl (by kernel_rfl) (by kernel_rfl) (by kernel_rfl) (Or.inl ⟨by rfl, ?_⟩) hS0 ?_
    · intro y1 hS1
      go_simp
    simp only [Act.put, List.setIfInBounds_toArray, List.set_cons_zero, List.set_cons_succ]
    refine takeH (i := 5) (v := .pointer (some ⟨lb, a, none⟩)) (some 41) rfl rfl (by kernel_rfl) (by kernel_rfl) (by kernel_rfl) (Or.inl ⟨by rfl, ?_⟩) hS0 ?_
    · intro y1 hS1
      go_simp
    simp only [Act.put, List.setIfInBounds_toArray, List.set_cons_zero, List.set_cons_succ]
    refine takeH (i := 6) (v := .map (some m)) (some 42) rfl rfl (by kernel_rfl) (by kernel_rfl) (by kernel_rfl) (Or.inl ⟨by rfl, ?_⟩) hS0 ?_
    · intro y1 hS1
      have ck1 := (hS1.cell (b := lb) hlb1 hnl).trans ck1
      go_simp
    simp only [Act.put, List.setIfInBounds_toArray, List.set_cons_zero, List.set_cons_succ]
    refine takeH (i := 7) (v := .int .i64 r) (some 43) rfl rfl (by kernel_rfl) (by kernel_rfl) (by kernel_rfl) (Or.inl ⟨by rfl, ?_⟩) hS0 ?_
    · intro y1 hS1
      go_simp
    simp only [Act.put, List.setIfInBounds_toArray, List.set_cons_zero, List.set_cons_succ]
    refine takeH (i := 8) (v := .slice p0 (Ld a r).length k0) (some 44) rfl rfl (by kernel_rfl) (by kernel_rfl) (by kernel_rfl) (Or.inl ⟨by rfl, ?_⟩) hS0 ?_
    · intro y1 hS1
      go_simp
    simp only [Act.put, List.setIfInBounds_toArray, List.set_cons_zero, List.set_cons_succ]
    refine takeH (i := 9) (v := .int .i64 (q : Int)) (some 45) rfl rfl (by kernel_rfl) (by kernel_rfl) (by kernel_rfl) (Or.inl ⟨by rfl, ?_⟩) hS0 ?_
    · intro y1 hS1
      go_simp
    simp only [Act.put, List.setIfInBounds_toArray, List.set_cons_zero, List.set_cons_succ]
    refine wpAnyH_all (rs := [10]) (by kernel_rfl) (by simp) ?_
    intro i1 hi1
    obtain rfl : i1 = 10 := by simpa using hi1
    refine wpOp_val (w' := W.drew.alloc (.cells #[.int .i64 (q : Int)] 3)) (v := .slice (some ⟨W.drew.heap.size, 0, none⟩) 1 1) (some 46) rfl rfl (by rfl) (by go_simp) ?_
    refine ⟨hS0.alloc _, ?_⟩
    simp only [Act.put, List.setIfInBounds_toArray, List.set_cons_zero, List.set_cons_succ]
    refine wpAnyH_all (rs := [11]) (by kernel_rfl) (by simp) ?_
    intro i2 hi2
    obtain rfl : i2 = 11 := by simpa using hi2
    refine wpOp_sr (B := B) (some 47) rfl rfl (by rfl) _ _ 64 rfl Tryd.underlying64 (.slice p0 (Ld a r).length k0) ((Ld a r).map Int.ofNat) rfl (HROW.out.1.stay ((below_drew1 _).alloc (Nat.le_refl _) _)) (by simp; omega) (by rw [List.length_map]; omega) ⟨W.drew.heap.size, 0, none⟩ 1 (q : Int) rfl (by rw [Addr.add_zero', cell_of_row _ _ _ _ _ _ (heap_alloc_new _ _)]; rfl) ?_
    intro v4 w4 hsr hgr4 hat4
    obtain ⟨p4, k4, e4⟩ := hsr.form
    subst e4
    have hS4 : Ch (fun z => z = m ∨ (Value.slice p0 (Ld a r).length k0).ownBlock = some z) W w4 := (hS0.alloc _).grown hgr4 fun z e => .inl (.inr e)
    refine ⟨hS4, ?_⟩
    simp only [Act.put, List.setIfInBounds_toArray, List.set_cons_zero, List.set_cons_succ]
    refine wpAnyH_all (rs := [12]) (by kernel_rfl) (by simp) ?_
    intro i3 hi3
    obtain rfl : i3 = 12 := by simpa using hi3
    have HKM4 : Hid (KM 3 w4 m L.length (Lf a)) := Lib.hid (((HKM.out.same (((below_drew1 W).alloc (Nat.le_refl _) _).block m hmW)).same (hgr4.block m (by simpa using Nat.lt_succ_of_lt hmW) fun e => hnm e.symm)))
    refine wpOp_putK none rfl rfl (by rfl) (.tmp 42) (.tmp 43) (.tmp 47) rfl keyedI Tryd.underlying101 m L.length (Lf a) rfl HKM4.out hLm r _ rfl rfl (keyI hr) ?_
    intro w5 hk5 hg5
    have hS5 : Ch (fun z => z = m ∨ (Value.slice p0 (Ld a r).length k0).ownBlock = some z) W w5 := hS4.grown hg5 fun b e => .inl (.inl (by cases e; rfl))
    refine ⟨hS5, ?_⟩
    simp only [Act.put, List.setIfInBounds_toArray, List.set_cons_zero, List.set_cons_succ]
    refine wpAnyH_done (by kernel_rfl) ?_ _
    refine ⟨rfl, ?_⟩
    have hat5 : (Value.slice p4 ((Ld a r).map Int.ofNat ++ [(q : Int)]).length k4).ownBlock = (lfv Lf a r).ownBlock ∨ ∃ g, (Value.slice p4 ((Ld a r).map Int.ofNat ++ [(q : Int)]).length k4).ownBlock = some g ∧ W.heap.size ≤ g := by
      rw [HZ.out]
      exact hat4.imp id fun ⟨z, e, h⟩ => ⟨z, e, by simp at h; omega⟩
    have HL5 := Lib.hid (HL1.out.push (q := q) ha e1 hom (by rw [HZ.out]; exact ((Ch.of (below_drew1 _)).alloc _).grown hgr4 fun z e => .inl e) (by rw [List.map_append]; exact hsr) hat5 hk5 hg5 hmW)
    have HM5 : Hid (StO (ownN own1 W.heap.size (Value.slice p4 ((Ld a r).map Int.ofNat ++ [(q : Int)]).length k4) (.lr a r)) w5 sb n c rc tg fr) := Lib.hid (HM1.out.ch hS5 (fun b hb => ownN_old hb) fun b hb h => by
      rcases h with h | h
      · rw [h, hom] at hb; cases hb
      · have h1 := HROW.out.2 b h; rw [hb] at h1; cases h1)
    have HF5 : Hid (FV 69 w5 g 8 F) := Lib.hid (HF1.out.ch hS5 hng)
    have hsl5 := HM5.out.st.sl
    have hg5l := HF5.out.lt
    have d1 := HF5.out.cell (i := 1) (by omega)
    rw [hF1] at d1
    have t0 := HM5.out.st.r a ha
    have t1 := HM5.out.st.t a ha
    obtain ⟨pf, kf, t2, hvf⟩ := HM5.out.st.f a ha
    have t3 := HM5.out.st.d a ha hra
    obtain ⟨pn, kn, t4, hvn⟩ := HM5.out.st.nn a ha hra
    rw [hra] at t0
    have HVN := Lib.hid hvn
    have hS5n : ∀ b, (∃ k, own1 b = .qr k ∨ own1 b = .qp k ∨ ∃ i, own1 b = .q k i) → ¬ (b = m ∨ (Value.slice p0 (Ld a r).length k0).ownBlock = some b) := fun b ⟨k, hb⟩ h => by
      rcases h with h | h
      · rw [h, hom] at hb; rcases hb with e | e | ⟨i, e⟩ <;> cases e
      · have h1 := HROW.out.2 b h; rw [h1] at hb; rcases hb with e | e | ⟨i, e⟩ <;> cases e
    have HA5 := Lib.hid (LA.mk (B := B) (W := w5) (g := g) (ra := ra) (rw := rw) (F := F) (VA := VA) (VW := VW) (PA := PA) (RA := RA) (PW := PW) (RW := RW) ((ownN_old hg1).trans hog1) HF5.out hF3 hA.out.f5 hA.out.f7 HL5.out (HA1.out.qa.ch hS5 (fun b hb => ownN_old hb) fun b hb => hS5n b ⟨4, hb⟩) (HA1.out.qw.ch hS5 (fun b hb => ownN_old hb) fun b hb => hS5n b ⟨6, hb⟩))
    have HC5 : Hid (Ch (LS own1) W w5) := Lib.hid (hS5.mono fun z _ h => by
      rcases h with h | h
      · exact .inr (.inr (.inl ⟨a, h ▸ hom⟩))
      · exact .inr (.inr (.inr (.inl ⟨a, r, HROW.out.2 z h⟩))))
    clear hS5n
    clear hvf hvn hk5 hg5 hS5 hat5 hsr hgr4 hat4 hS4 hS0 c3 ck ck1
    go_upto_region 6 with (fail)
    refine name_world ?_
    intro V1 hV1
    obtain ⟨m5, hm5⟩ : ∃ x, w5.heap.size = x := ⟨_, rfl⟩
    have HV1 : Hid (Sb5 V1 m5 (.bool true) (.bool (tg a)) (.slice pf (fr a).length kf) (.int .i64 (dfn c a)) (.slice pn (nds c a).length kn)) := Lib.hid (by rw [hV1, ← hm5]; exact heap_alloc_new w5 _)
    have HC6 : Hid (Ch (fun _ => False) w5 V1) := Lib.hid (by rw [hV1]; exact (Ch.refl (fun _ => False) w5).alloc _)
    have HA6 := Lib.hid (HA5.out.ch HC6.out (fun _ _ => rfl) (fun _ _ h => h))
    have HVN6 := Lib.hid (HVN.out.ch HC6.out fun _ _ h => h)
    try rw [hm5]
    obtain ⟨own2, ho2⟩ : ∃ x, ownN own1 W.heap.size (Value.slice p4 ((Ld a r).map Int.ofNat ++ [(q : Int)]).length k4) (.lr a r) = x := ⟨_, rfl⟩
    have HO2 : Hid (∀ b, b < W.heap.size → own2 b = own1 b) := Lib.hid fun b hb => by rw [← ho2]; exact ownN_old hb
    rw [ho2] at HA6
    obtain ⟨Lf2, hLf2⟩ : ∃ x, (fun i => if i = a then KF.upd (Lf a) r (Value.slice p4 ((Ld a r).map Int.ofNat ++ [(q : Int)]).length k4) else Lf i) = x := ⟨_, rfl⟩
    rw [hLf2] at HA6
    have HLf2 : Hid (∀ i s, Lf2 i s ≠ none → Lf i s ≠ none ∨ (i = a ∧ s = r)) := Lib.hid fun i s h => by
      rw [← hLf2] at h
      by_cases hi : i = a
      · subst hi
        by_cases hs : s = r
        · exact .inr ⟨rfl, hs⟩
        · simp [KF.upd, hs] at h
          exact .inl h
      · simp [hi] at h
        exact .inl h
    have HC7 : Hid (Ch (LS own1) W V1) := Lib.hid (HC5.out.trans (HC6.out.mono fun _ _ h => h.elim))
    have HB7 : Hid (B ≤ V1.heap.size) := Lib.hid (Nat.le_trans hB1 HC7.out.size)
    have HEND : Hid (∀ (v : Value) (X : World) (own' : Nat → Ob) (F' VA' VW' : Nat → Value) (asks ways : List Int), asks = laskL c Ld a r → ways = lwayL c Ld a r → (∀ b, b < V1.heap.size → own' b = own2 b) → (∀ i, i ≠ 4 → i ≠ 6 → F' i = F i) → LA B own' X g lb n ra rw F' LV1 VA' VW' Lf2 (putL Ld a r q) (puts a asks (PA, RA)).1 (puts a asks (PA, RA)).2 (puts a ways (PW, RW)).1 (puts a ways (PW, RW)).2 → Ch (LS own2) V1 X → LeadP B own W g lb n ra rw F Lf Ld PA RA PW RW c a r q (.returned v) X) := Lib.hid fun v X own' F' VA' VW' asks ways e1 e2 h1 h2 h3 h4 => by
      subst e1 e2
      refine ⟨v, own', F', LV1, VA', VW', Lf2, rfl, fun b hb => ?_, h2, h3, HLf2.out, ?_⟩
      · have hb1 := HOW1.out b hb
        rw [h1 b (Nat.lt_of_lt_of_le hb1.1 HC7.out.size), HO2.out b hb1.1, hb1.2]
      · refine Ch.fresh HCW.out (Ch.fresh HC7.out h4 fun b hb h => ?_) fun b hb h => ?_
        · unfold LS at h ⊢
          rw [HO2.out b hb] at h
          exact h
        · unfold LS at h ⊢
          rw [(HOW1.out b hb).2] at h
          exact h
    have HNO : Hid (∀ ad, pn = some ad → own2 ad.block = .no) := Lib.hid fun ad e => by rw [← ho2]; exact (HM5.out.of _ ad _ kn (e ▸ t4)).1
    clear hV1 hm5 t0 t1 t2 t3 t4 d1 hsl5 hg5l ho2 hLf2
    have HPUTW : Hid (Calls Tryd.prog 20 #[.pointer (some ⟨g, 6, none⟩), .int .i64 a, .int .i64 r] V1 (PutP B own2 V1 g 6 n rw F VW PW RW a r)) := Lib.hid (put_c (Lib.hid HA6.out.fv) HA6.out.f7 (by omega) (Lib.hid HA6.out.qw) HA6.out.og ha hn HB7.out (by omega) (by omega))
    have HPUTA : Hid (Calls Tryd.prog 20 #[.pointer (some ⟨g, 4, none⟩), .int .i64 a, .int .i64 r] V1 (PutP B own2 V1 g 4 n ra F VA PA RA a r)) := Lib.hid (put_c (Lib.hid HA6.out.fv) HA6.out.f5 (by omega) (Lib.hid HA6.out.qa) HA6.out.og ha hn HB7.out (by omega) (by omega))
    have hgl6 := HA6.out.fv.lt
    obtain ⟨bm, u3, u4⟩ := HV1.out.facts
    have HENDW : Hid (Ld a r = [] → a = 0 ∨ (dfn c a = r ∧ nds c a = []) → ∀ (e : Ending) (X : World), PutP B own2 V1 g 6 n rw F VW PW RW a r e X → LeadP B own W g lb n ra rw F Lf Ld PA RA PW RW c a r q (.returned (.tuple #[])) X) := Lib.hid fun hnil hw e X hp => by
      obtain ⟨v0, own', F', VW', -, h1, h2, h3, h4⟩ := HA6.out.putW hp
      exact HEND.out _ X own' F' VA VW' [] [r] (by simp [laskL, hnil, hw]) (by simp [lwayL, hnil, hw]) h1 h2 h3 h4
    have HENDA : Hid (Ld a r = [] → ¬ a = 0 → dfn c a ≠ r → ∀ (e : Ending) (X : World), PutP B own2 V1 g 4 n ra F VA PA RA a r e X → LeadP B own W g lb n ra rw F Lf Ld PA RA PW RW c a r q (.returned (.tuple #[])) X) := Lib.hid fun hnil h0 hd e X hp => by
      obtain ⟨v0, own', F', VA', -, h1, h2, h3, h4⟩ := HA6.out.putA hp
      exact HEND.out _ X own' F' VA' VW [r] [] (by simp [laskL, hnil, h0, hd]) (by simp [lwayL, hnil, h0, hd]) h1 h2 h3 h4
    have HEND0 : Hid (Ld a r ≠ [] → LeadP B own W g lb n ra rw F Lf Ld PA RA PW RW c a r q (.returned (.tuple #[])) V1) := Lib.hid fun hnil => HEND.out _ V1 own2 F VA VW [] [] (by simp [laskL, hnil]) (by simp [lwayL, hnil]) (fun _ _ => rfl) (fun _ _ _ => rfl) HA6.out (Ch.refl _ _)
    by_cases hnil : Ld a r = []
    · have hzero : (Ld a r).length = 0 := by rw [hnil]; rfl
      have HNIL := Lib.hid hnil
      clear hnil
      have hlt0 : decide (0 < (Ld a r).length) = false := by rw [hzero]; rfl
      by_cases h0 : a = 0
      · have h0b : ((a : Int) == 0) = true := by simp [h0]
        have H0 := Lib.hid h0
        clear h0
        go_upto_region 8 with (fail)
        go_wp2_with (go_at_call 20; (with_reducible refine (HPUTW.out).mono ?_); rintro e2 w2 hp; obtain ⟨v0, rfl⟩ : ∃ v0, e2 = .returned v0 := (by obtain ⟨v0, _, _, _, h, _⟩ := hp; exact ⟨v0, h⟩); have HP := Lib.hid hp; clear hp)
        exact bodyPost_ret (results_none rfl _ _ _) rfl (HENDW.out HNIL.out (.inl H0.out) _ _ HP.out)
      · have h0b : ((a : Int) == 0) = false := by simp [h0]
        have H0 := Lib.hid h0
        clear h0
        by_cases hd : dfn c a = r
        · have hdb : (dfn c a == r) = true := by simp [hd]
          have HD := Lib.hid hd
          clear hd
          by_cases hnd : nds c a = []
          · have hnb : (((nds c a).length : Int) == 0) = true := by simp [hnd]
            have HND := Lib.hid hnd
            clear hnd
            go_upto_region 8 with (fail)
            go_wp2_with (go_at_call 20; (with_reducible refine (HPUTW.out).mono ?_); rintro e2 w2 hp; obtain ⟨v0, rfl⟩ : ∃ v0, e2 = .returned v0 := (by obtain ⟨v0, _, _, _, h, _⟩ := hp; exact ⟨v0, h⟩); have HP := Lib.hid hp; clear hp)
            exact bodyPost_ret (results_none rfl _ _ _) rfl (HENDW.out HNIL.out (.inr ⟨HD.out, HND.out⟩) _ _ HP.out)
          · have hnb : (((nds c a).length : Int) == 0) = false := by simp [hnd]
            have HND := Lib.hid hnd
            clear hnd
            go_upto_region 11 with (fail)
            clear u3 u4 bm hgl6 hzero hlt0 h0b hdb hnb
            obtain ⟨n4, hn4⟩ : ∃ x, (List.map Int.ofNat (Ld a r) ++ [(q : Int)]).length = x := ⟨_, rfl⟩
            try rw [hn4]
            obtain ⟨s4, hs4⟩ : ∃ x, W.drew.heap.size = x := ⟨_, rfl⟩
            try rw [hs4]
            clear hn4 hs4
            obtain ⟨N, hN⟩ : ∃ N, nds c a = N := ⟨_, rfl⟩
            rw [hN] at HVN6 HND hndl
            try rw [hN]
            have HNE := Lib.hid hN
            clear hN
            go_loopw [94] (fun z wr => ∃ (i : Nat) (own' : Nat → Ob) (F' VA' : Nat → Value), z = .int .i64 i ∧ i ≤ N.length ∧ Hid ((∀ b, b < V1.heap.size → own' b = own2 b) ∧ (∀ j, j ≠ 4 → j ≠ 6 → F' j = F j) ∧ LA B own' wr g lb n ra rw F' LV1 VA' VW Lf2 (putL Ld a r q) (puts a (N.take i) (PA, RA)).1 (puts a (N.take i) (PA, RA)).2 PW RW ∧ Ch (LS own2) V1 wr)) (fun z _ => N.length - (intOf z).toNat)
            case atStart => exact ⟨0, own2, F, VA, rfl, Nat.zero_le _, Lib.hid ⟨fun _ _ => rfl, fun _ _ _ => rfl, HA6.out, Ch.refl _ _⟩⟩
            case round =>
              obtain ⟨wo, rfl⟩ : ∃ wo : World, wo = wr := ⟨_, rfl⟩
              obtain ⟨i, own', F', VA', rfl, hi, HI⟩ := hrel
              by_cases hlt : i < N.length
              · obtain ⟨gn, on, ep, hgn, ir⟩ := (HVN6.out.ch HI.out.2.2.2 fun ad e h => by
                  have h1 := HNO.out ad e
                  unfold LS at h
                  rw [h1] at h
                  rcases h with h | h | ⟨_, h⟩ | ⟨_, _, h⟩ | ⟨_, h | h | ⟨_, h⟩⟩ <;> cases h) i hlt
                subst ep
                have elv : iv (fun j => N.getD j 0) i = .int .i64 (N.getD i 0) := rfl
                rw [elv] at ir
                obtain ⟨x, hx⟩ : ∃ x, N.getD i 0 = x := ⟨_, rfl⟩
                rw [hx] at ir
                have HX := Lib.hid hx
                clear hx elv
                have hgl := HI.out.2.2.1.fv.lt
                obtain ⟨l1, l2⟩ := puts_len a (N.take i) (PA, RA)
                have l3 : (N.take i).length ≤ 1000 := by rw [List.length_take]; omega
                have HPUT : Hid (Calls Tryd.prog 20 #[.pointer (some ⟨g, 4, none⟩), .int .i64 a, .int .i64 x] wo (PutP B own' wo g 4 n ra F' VA' (puts a (N.take i) (PA, RA)).1 (puts a (N.take i) (PA, RA)).2 a x)) := Lib.hid (put_c (Lib.hid HI.out.2.2.1.fv) HI.out.2.2.1.f5 (by omega) (Lib.hid HI.out.2.2.1.qa) HI.out.2.2.1.og ha hn (Nat.le_trans HB7.out HI.out.2.2.2.size) (by simp only at l1; omega) (by simp only at l2; omega))
                clear l1 l2 l3
                go_wp2_with (go_at_call 20; (with_reducible refine (HPUT.out).mono ?_); rintro e2 w2 hp; obtain ⟨v0, rfl⟩ : ∃ v0, e2 = .returned v0 := (by obtain ⟨v0, _, _, _, h, _⟩ := hp; exact ⟨v0, h⟩); have HP := Lib.hid hp; clear hp)
                go_roundw
                case rel =>
                  obtain ⟨v1, own3, F3, VA3, -, h1, h2, h3, h4⟩ := HI.out.2.2.1.putA HP.out
                  have et : N.take (i + 1) = N.take i ++ [x] := by
                    rw [List.take_add_one, List.getElem?_eq_getElem hlt, ← HX.out, List.getD_eq_getElem?_getD, List.getElem?_eq_getElem hlt]
                    rfl
                  refine ⟨i + 1, own3, F3, VA3, by go_num, by omega, Lib.hid ⟨fun b hb => (h1 b (Nat.lt_of_lt_of_le hb HI.out.2.2.2.size)).trans (HI.out.1 b hb), fun j j4 j6 => (h2 j j4 j6).trans (HI.out.2.1 j j4 j6), by rw [et, puts_end]; exact h3, Ch.fresh HI.out.2.2.2 h4 fun b hb h => ?_⟩⟩
                  unfold LS at h ⊢
                  rw [HI.out.1 b hb] at h
                  exact h
                case measure => (simp [intOf]; try omega)
              · obtain rfl : i = N.length := by omega
                go_wp2
                refine bodyPost_ret (results_none rfl _ _ _) rfl (HEND.out _ wo own' F' VA' VW (N.take N.length) [] ?_ ?_ HI.out.1 HI.out.2.1 HI.out.2.2.1 HI.out.2.2.2)
                · rw [List.take_length]
                  have hq : ¬ (a = 0 ∨ dfn c a = r ∧ nds c a = []) := fun h => h.elim H0.out fun h => HND.out (HNE.out ▸ h.2)
                  unfold laskL
                  rw [if_neg (by simp [HNIL.out]), if_neg hq, if_pos HD.out, HNE.out]
                · have hq : ¬ (a = 0 ∨ dfn c a = r ∧ nds c a = []) := fun h => h.elim H0.out fun h => HND.out (HNE.out ▸ h.2)
                  unfold lwayL
                  rw [if_neg (by simp [HNIL.out]), if_neg hq]
        · have hdb : (dfn c a == r) = false := by simp [hd]
          have HD := Lib.hid hd
          clear hd
          go_wp2_with (go_at_call 20; (with_reducible refine (HPUTA.out).mono ?_); rintro e2 w2 hp; obtain ⟨v0, rfl⟩ : ∃ v0, e2 = .returned v0 := (by obtain ⟨v0, _, _, _, h, _⟩ := hp; exact ⟨v0, h⟩); have HP := Lib.hid hp; clear hp)
          exact bodyPost_ret (results_none rfl _ _ _) rfl (HENDA.out HNIL.out H0.out HD.out _ _ HP.out)
    · have hpos : 0 < (Ld a r).length := List.length_pos_iff.2 hnil
      have HNIL := Lib.hid hnil
      clear hnil
      go_wp2
      exact bodyPost_ret (results_none rfl _ _ _) rfl (HEND0.out HNIL.out)
end Go.Proofs.YtgdhgipofaaogaaDoor
namespace Go.Proofs.YtgdhgipofaaogaaDoor
open Go Go.RowKit Gm Go.ChangeMaps

/-- What the telling writes. -/
def TS (own : Nat → Ob) (z : Nat) : Prop := own z = .f ∨ (∃ i, own z = .km i) ∨ own z = .qr 6 ∨ own z = .qp 6 ∨ ∃ i, own z = .q 6 i
structure TA (B : Nat) (own : Nat → Ob) (W : World) (g kb lb n rw : Nat) (F KV LV VW : Nat → Value) (M : Km) (Lf : Nat → KF) (Ld : Nat → Int → List Nat) (PW : List Nat) (RW : Nat → List Int) : Prop where
  og : own g = .f
  fv : FV 69 W g 8 F
  f2 : F 2 = .slice (some ⟨kb, 0, none⟩) n n
  f3 : F 3 = .slice (some ⟨lb, 0, none⟩) n n
  f7 : F 7 = .slice (some ⟨rw, 0, none⟩) n n
  km : KMm own W kb n KV M
  lm : LMm B own W lb n LV Lf Ld
  qw : QM B own W 6 n (F 6) rw VW PW RW
theorem KMm.chg {own : Nat → Ob} {W X : World} {kb n a m cnt : Nat} {KV : Nat → Value} {M : Km} {r : Int} {v : Option (Int × Bool)} {f : KF} (h : KMm own W kb n KV M) (e : KV a = .map (some m)) (hom : own m = .km a) (hk : KM 3 X m cnt f) (ef : ∀ s, f s = (setM M a r v a s).map fv2) (hg : W.grownBy X (some m)) : KMm own X kb n KV (setM M a r v) := by
  have hc : Ch (fun z => z = m) W X := (Ch.refl (fun z => z = m) _).grown hg (fun z e => .inl (by cases e; rfl))
  refine ⟨h.okb, h.fv.ch hc (fun e => by have h1 := h.okb; rw [e, hom] at h1; cases h1), fun i hi => ?_⟩
  by_cases hia : i = a
  · subst hia
    refine .inr ⟨m, cnt, e, hom, ?_⟩
    rw [← show f = fun s => (setM M i r v i s).map fv2 from funext ef]
    exact hk
  · have es : ∀ s, setM M a r v i s = M i s := fun s => setM_of fun h => hia h.1
    rcases h.mp i hi with ⟨h1, h2⟩ | ⟨m', c', h1, h2, h3⟩
    · exact .inl ⟨h1, fun s => by rw [es, h2]⟩
    · refine .inr ⟨m', c', h1, h2, ?_⟩
      have hne : ¬ m' = m := fun e' => by rw [e', hom] at h2; cases h2; exact hia rfl
      simp only [es]
      exact h3.same (hc.block m' h3.lt hne)
section
variable {B : Nat} {own own' : Nat → Ob} {W X : World} {g kb lb n rw a : Nat} {F KV LV VW : Nat → Value} {M : Km} {Lf : Nat → KF} {Ld : Nat → Int → List Nat} {PW : List Nat} {RW : Nat → List Int} {S : Nat → Prop} {r : Int} {e : Ending}
theorem TA.ch (h : TA B own W g kb lb n rw F KV LV VW M Lf Ld PW RW) (hc : Ch S W X) (ho : ∀ b, b < W.heap.size → own' b = own b) (hS : ∀ b, own b ≠ .no → ¬ S b) : TA B own' X g kb lb n rw F KV LV VW M Lf Ld PW RW where
  og := by rw [ho _ h.fv.lt]; exact h.og
  fv := h.fv.ch hc (hS _ (by rw [h.og]; simp))
  f2 := h.f2
  f3 := h.f3
  f7 := h.f7
  km := h.km.ch hc (fun b hb _ => ho b hb) fun b hb => hS b (by rcases hb with e | ⟨i, e⟩ <;> rw [e] <;> simp)
  lm := h.lm.ch hc ho fun b hb => hS b (by rcases hb with e | ⟨i, e⟩ | ⟨i, r, e⟩ <;> rw [e] <;> simp)
  qw := h.qw.ch hc ho fun b hb => hS b (by rcases hb with e | e | ⟨i, e⟩ <;> rw [e] <;> simp)
theorem QS.ts (hog : own g = .f) {z : Nat} (h : QS own g 6 z) : TS own z := by
  rcases h with h | h | h | ⟨i, h⟩
  · exact .inl (h ▸ hog)
  · exact .inr (.inr (.inl h))
  · exact .inr (.inr (.inr (.inl h)))
  · exact .inr (.inr (.inr (.inr ⟨i, h⟩)))
theorem KMm.other {k' : Nat} (h : KMm own W kb n KV M) (hog : own g = .f) (hc : Ch (QS own g k') W X) (ho : ∀ b, b < W.heap.size → own' b = own b) : KMm own' X kb n KV M := h.ch hc (fun b hb _ => ho b hb) fun b hb hs => by
  rcases hs with rfl | hs | hs | ⟨j, hs⟩
  · rw [hog] at hb; rcases hb with e | ⟨i, e⟩ <;> cases e
  · rw [hs] at hb; rcases hb with e | ⟨i, e⟩ <;> cases e
  · rw [hs] at hb; rcases hb with e | ⟨i, e⟩ <;> cases e
  · rw [hs] at hb; rcases hb with e | ⟨i, e⟩ <;> cases e
theorem TA.putW (h : TA B own W g kb lb n rw F KV LV VW M Lf Ld PW RW) (hp : PutP B own W g 6 n rw F VW PW RW a r e X) :
    ∃ (v0 : Value) (own' : Nat → Ob) (F' VW' : Nat → Value), e = .returned v0 ∧ (∀ b, b < W.heap.size → own' b = own b) ∧ (∀ i, i ≠ 6 → F' i = F i) ∧ TA B own' X g kb lb n rw F' KV LV VW' M Lf Ld (putP PW RW a) (putR RW a r) ∧ Ch (TS own) W X := by
  obtain ⟨v0, vP, own', RV', rfl, ho, hfv, hq, hc⟩ := hp
  exact ⟨v0, own', upd F 6 vP, RV', rfl, ho, fun i h6 => upd_of h6, ⟨by rw [ho _ h.fv.lt]; exact h.og, hfv, by rw [upd_of (by omega)]; exact h.f2, by rw [upd_of (by omega)]; exact h.f3, by rw [upd_of (by omega)]; exact h.f7, h.km.other h.og hc ho, h.lm.other h.og hc ho, by rw [upd_at]; exact hq⟩, hc.mono fun z _ hz => QS.ts h.og hz⟩
/-- What is known of one register is changed, in its place's map. -/
theorem TA.setK {m cnt : Nat} {v : Option (Int × Bool)} {f : KF} (h : TA B own W g kb lb n rw F KV LV VW M Lf Ld PW RW) (e : KV a = .map (some m)) (hom : own m = .km a) (hk : KM 3 X m cnt f) (ef : ∀ s, f s = (setM M a r v a s).map fv2) (hg : W.grownBy X (some m)) : TA B own X g kb lb n rw F KV LV VW (setM M a r v) Lf Ld PW RW := by
  have hc : Ch (fun z => z = m) W X := (Ch.refl (fun z => z = m) _).grown hg (fun z e => .inl (by cases e; rfl))
  have hn : ∀ b t, own b = t → t ≠ .km a → ¬ b = m := fun b t h1 h2 e => h2 (by rw [← h1, e, hom])
  refine ⟨h.og, h.fv.ch hc (hn _ _ h.og (by simp)), h.f2, h.f3, h.f7, h.km.chg e hom hk ef hg, h.lm.ch hc (fun _ _ => rfl) fun b hb => ?_, h.qw.ch hc (fun _ _ => rfl) fun b hb => ?_⟩
  · rcases hb with e | ⟨i, e⟩ | ⟨i, r, e⟩ <;> exact hn _ _ e (by simp)
  · rcases hb with e | e | ⟨i, e⟩ <;> exact hn _ _ e (by simp)
end
def boK (x : Int) (is : Bool) : Option Int := if is = true then some x else none
/-- What waits anew when something new came. -/
def comeL (c : List Ic) (tg : Nat → Bool) (M : Km) (a : Nat) (r : Int) (b : Option Int) : List Int := if newM M a r b = true then (if dfn c a ≠ r ∧ tg a = true then [r] else []) ++ (if r ∈ nds c a then [dfn c a] else []) else []
def ComeP (B : Nat) (own : Nat → Ob) (W : World) (g kb lb n rw : Nat) (F KV LV : Nat → Value) (M : Km) (Lf : Nat → KF) (Ld : Nat → Int → List Nat) (PW : List Nat) (RW : Nat → List Int) (c : List Ic) (tg : Nat → Bool) (a : Nat) (r : Int) (b : Option Int) (e : Ending) (w' : World) : Prop :=
  ∃ (v : Value) (own' : Nat → Ob) (F' VW' : Nat → Value), e = .returned v ∧ (∀ b, b < W.heap.size → own' b = own b) ∧ (∀ i, i ≠ 6 → F' i = F i) ∧ TA B own' w' g kb lb n rw F' KV LV VW' (comeM M a r b) Lf Ld (puts a (comeL c tg M a r b) (PW, RW)).1 (puts a (comeL c tg M a r b) (PW, RW)).2 ∧ Ch (TS own) W w'
theorem look_none2 (W : World) (r : Int) (h : In6 r) : (Instr.lookup 100 (.map none) (.int .i64 r) true).run Tryd.prog W = .ok (.tuple #[.agg #[.int .i64 0, .bool false], .bool false]) W := by
  have hk := keyI h
  have hc := keyedI.check W true hk
  have hf : (Instr.findKey 3 (.int .i64 r) []).run Tryd.prog W = .ok none W := by
    rcases keyedI.find W hk [] (fun e he => by cases he) with ⟨h1, -⟩ | ⟨j, e, -, h2, -⟩
    · exact h1
    · simp at h2
  simp [Instr.lookup, run_underlying Tryd.underlying100, hc, hf, zeroF, Result.andThen]
theorem KMm.look2 {own : Nat → Ob} {W : World} {kb n : Nat} {KV : Nat → Value} {M : Km} (h : KMm own W kb n KV M) {a : Nat} (ha : a < n) {r : Int} (hr : In6 r) : (Instr.lookup 100 (KV a) (.int .i64 r) true).run Tryd.prog W = .ok (.tuple #[.agg #[.int .i64 (kmv M a r).1, .bool (kmv M a r).2], .bool (M a r).isSome]) W := by
  rcases h.mp a ha with ⟨h1, h2⟩ | ⟨m, cnt, h1, -, h3⟩
  · rw [h1, look_none2 W r hr]
    unfold kmv
    rw [h2 r]
    rfl
  · rw [h1, h3.look_ok keyedI Tryd.underlying100 (zeroF W) (keyI hr) true]
    unfold kmv
    cases M a r <;> rfl
end Go.Proofs.YtgdhgipofaaogaaDoor
namespace Go.Proofs.YtgdhgipofaaogaaDoor
open Gm

/-- A queue's places: those at which registers wait, each once. -/
structure QI (n : Nat) (P : List Nat) (R : Nat → List Int) : Prop where
  nd : P.Nodup
  iff : ∀ a, a ∈ P ↔ R a ≠ []
  lt : ∀ a, a ∈ P → a < n
theorem putR_mem {R : Nat → List Int} {a b : Nat} {r t : Int} : t ∈ putR R a r b ↔ t ∈ R b ∨ (b = a ∧ t = r) := by
  unfold putR
  by_cases e : b = a
  · subst e
    rw [if_pos rfl]
    simp
  · rw [if_neg e]
    simp [e]
theorem QI.put {n a : Nat} {P : List Nat} {R : Nat → List Int} (h : QI n P R) (ha : a < n) (r : Int) : QI n (putP P R a) (putR R a r) := by
  have hne : ∀ b, putR R a r b ≠ [] ↔ R b ≠ [] ∨ b = a := fun b => by
    unfold putR
    by_cases e : b = a
    · subst e; rw [if_pos rfl]; simp
    · rw [if_neg e]; simp [e]
  unfold putP
  by_cases e : R a = []
  · rw [if_pos e]
    have ha' : a ∉ P := fun k => (h.iff a).1 k e
    refine ⟨?_, fun b => ?_, fun b hb => ?_⟩
    · rw [List.nodup_append]
      exact ⟨h.nd, by simp, fun x hx y hy e2 => ha' (by rw [← (show y = a by simpa using hy), ← e2]; exact hx)⟩
    · rw [hne, List.mem_append, h.iff b]; simp
    · rcases List.mem_append.1 hb with hb | hb
      · exact h.lt b hb
      · rw [show b = a by simpa using hb]; exact ha
  · rw [if_neg e]
    refine ⟨h.nd, fun b => ?_, h.lt⟩
    rw [hne, h.iff b]
    constructor
    · exact .inl
    · rintro (k | rfl)
      · exact k
      · exact e
theorem puts_qi {n a : Nat} (ha : a < n) : ∀ (l : List Int) (x : List Nat × (Nat → List Int)), QI n x.1 x.2 → QI n (puts a l x).1 (puts a l x).2
  | [], _, h => h
  | r :: l, x, h => puts_qi ha l _ (h.put ha r)
theorem puts_mem {a b : Nat} {t : Int} : ∀ (l : List Int) (x : List Nat × (Nat → List Int)), t ∈ (puts a l x).2 b ↔ t ∈ x.2 b ∨ (b = a ∧ t ∈ l)
  | [], x => by simp [puts]
  | r :: l, x => by
    show t ∈ (puts a l (putP x.1 x.2 a, putR x.2 a r)).2 b ↔ _
    rw [puts_mem l]
    simp only [putR_mem, List.mem_cons]
    constructor
    · rintro ((h | ⟨h1, h2⟩) | ⟨h1, h2⟩)
      · exact .inl h
      · exact .inr ⟨h1, .inl h2⟩
      · exact .inr ⟨h1, .inr h2⟩
    · rintro (h | ⟨h1, h2 | h2⟩)
      · exact .inl (.inl h)
      · exact .inl (.inr ⟨h1, h2⟩)
      · exact .inr ⟨h1, h2⟩
/-- One place at most is new. -/
theorem puts_one {a : Nat} : ∀ (l : List Int) (x : List Nat × (Nat → List Int)), (puts a l x).1.length ≤ x.1.length + 1 ∧ (x.2 a ≠ [] → (puts a l x).1.length = x.1.length)
  | [], _ => ⟨Nat.le_succ _, fun _ => rfl⟩
  | r :: l, x => by
    have h := puts_one (a := a) l (putP x.1 x.2 a, putR x.2 a r)
    have hne : putR x.2 a r a ≠ [] := by unfold putR; rw [if_pos rfl]; simp
    have e : (puts a l (putP x.1 x.2 a, putR x.2 a r)).1.length = (putP x.1 x.2 a).length := h.2 hne
    show (puts a l (putP x.1 x.2 a, putR x.2 a r)).1.length ≤ _ ∧ (_ → (puts a l (putP x.1 x.2 a, putR x.2 a r)).1.length = _)
    rw [e]
    unfold putP
    by_cases k : x.2 a = []
    · rw [if_pos k]; simp [k]
    · rw [if_neg k]; simp
theorem puts_other {a b : Nat} (hb : b ≠ a) : ∀ (l : List Int) (x : List Nat × (Nat → List Int)), (puts a l x).2 b = x.2 b
  | [], _ => rfl
  | r :: l, x => by
    show (puts a l (putP x.1 x.2 a, putR x.2 a r)).2 b = _
    rw [puts_other hb l]
    exact if_neg hb
theorem QI.next {n a : Nat} {P : List Nat} {R : Nat → List Int} (h : QI n (a :: P) R) : QI n P (fun i => if i = a then [] else R i) := by
  obtain ⟨h1, h2⟩ := List.nodup_cons.1 h.nd
  refine ⟨h2, fun b => ?_, fun b hb => h.lt b (List.mem_cons.2 (.inr hb))⟩
  have := h.iff b
  by_cases e : b = a
  · subst e
    simp [h1]
  · rw [if_neg e, ← this]
    simp [e]
theorem QI.len {n : Nat} {P : List Nat} {R : Nat → List Int} (h : QI n P R) : P.length ≤ n := by
  have h1 : (P.map Int.ofNat).Nodup := List.pairwise_map.2 (h.nd.imp fun hne e => hne (Int.ofNat.inj e))
  have h2 := sub_len (m := (List.range n).map Int.ofNat) h1 (fun t ht => by
    obtain ⟨a, ha, rfl⟩ := List.mem_map.1 ht
    exact List.mem_map.2 ⟨a, List.mem_range.2 (h.lt a ha), rfl⟩)
  simpa using h2
/-- A sum over registers, and over places. -/
def sumL (f : Int → Nat) : List Int → Nat
  | [] => 0
  | r :: l => f r + sumL f l
def sumP (f : Nat → Nat) : Nat → Nat
  | 0 => 0
  | n + 1 => sumP f n + f n
theorem sumL_le {f g : Int → Nat} (h : ∀ r, f r ≤ g r) : ∀ l, sumL f l ≤ sumL g l
  | [] => Nat.le_refl _
  | r :: l => Nat.add_le_add (h r) (sumL_le h l)
theorem sumL_lt {f g : Int → Nat} (h : ∀ r, f r ≤ g r) {s : Int} (hs : f s < g s) : ∀ {l}, s ∈ l → sumL f l < sumL g l
  | r :: l, hm => by
    rcases List.mem_cons.1 hm with rfl | hm
    · exact Nat.add_lt_add_of_lt_of_le hs (sumL_le h l)
    · exact Nat.add_lt_add_of_le_of_lt (h r) (sumL_lt h hs hm)
theorem sumL_top {f : Int → Nat} {k : Nat} (h : ∀ r, f r ≤ k) : ∀ l, sumL f l ≤ k * l.length
  | [] => Nat.le_refl _
  | r :: l => by
    show f r + sumL f l ≤ k * (l.length + 1)
    have := h r
    have := sumL_top h l
    rw [Nat.mul_add]
    omega
theorem sumP_le {f g : Nat → Nat} (h : ∀ r, f r ≤ g r) : ∀ n, sumP f n ≤ sumP g n
  | 0 => Nat.le_refl _
  | n + 1 => Nat.add_le_add (sumP_le h n) (h n)
theorem sumP_lt {f g : Nat → Nat} (h : ∀ r, f r ≤ g r) {s : Nat} (hs : f s < g s) : ∀ {n}, s < n → sumP f n < sumP g n
  | n + 1, hm => by
    by_cases e : s = n
    · subst e
      exact Nat.add_lt_add_of_le_of_lt (sumP_le h s) hs
    · exact Nat.add_lt_add_of_lt_of_le (sumP_lt h hs (by omega)) (h n)
theorem sumP_top {f : Nat → Nat} {k : Nat} (h : ∀ r, f r ≤ k) : ∀ n, sumP f n ≤ n * k
  | 0 => Nat.zero_le _
  | n + 1 => by
    show sumP f n + f n ≤ (n + 1) * k
    have := h n
    have := sumP_top h n
    rw [Nat.add_mul]
    omega
/-- How often what is known of a register may still change. -/
def wt : Option (Int × Bool) → Nat
  | none => 0
  | some (_, true) => 1
  | some (_, false) => 2
def wsum (n : Nat) (L : List Int) (M : Km) : Nat := sumP (fun p => sumL (fun r => wt (M p r)) L) n
theorem wt_come {M : Km} {p : Nat} {r : Int} {b : Option Int} (a : Nat) (t : Int) : wt (comeM M p r b a t) ≤ wt (M a t) ∧ (a = p → t = r → newM M p r b = true → wt (comeM M p r b a t) < wt (M a t)) := by
  have key : ∀ v, comeM M p r b = setM M p r v → wt v ≤ wt (M p r) ∧ (newM M p r b = true → wt v < wt (M p r)) → wt (comeM M p r b a t) ≤ wt (M a t) ∧ (a = p → t = r → newM M p r b = true → wt (comeM M p r b a t) < wt (M a t)) := fun v e h => by
    rw [e]
    by_cases h1 : a = p ∧ t = r
    · obtain ⟨rfl, rfl⟩ := h1
      rw [setM_at]
      exact ⟨h.1, fun _ _ k => h.2 k⟩
    · rw [setM_of h1]
      exact ⟨Nat.le_refl _, fun e1 e2 => absurd ⟨e1, e2⟩ h1⟩
  have same : comeM M p r b = M → newM M p r b = false → wt (comeM M p r b a t) ≤ wt (M a t) ∧ (a = p → t = r → newM M p r b = true → wt (comeM M p r b a t) < wt (M a t)) := fun e k => by
    rw [e]
    exact ⟨Nat.le_refl _, fun _ _ k' => by rw [k] at k'; cases k'⟩
  cases hM : M p r with
  | none => exact same (by unfold comeM; rw [hM]) (by unfold newM; rw [hM])
  | some v =>
    obtain ⟨k, t'⟩ := v
    cases t' with
    | true =>
      by_cases hb : b = some k
      · exact same (by unfold comeM; rw [hM]; simp [hb]) (by unfold newM; rw [hM]; simp [hb])
      · exact key none (by unfold comeM; rw [hM]; simp [hb]) (by rw [hM]; simp [wt])
    | false =>
      cases b with
      | some m => exact key (some (m, true)) (by unfold comeM; rw [hM]) (by rw [hM]; simp [wt])
      | none => exact key none (by unfold comeM; rw [hM]) (by rw [hM]; simp [wt])
theorem wsum_come {n : Nat} {L : List Int} {M : Km} {p : Nat} {r : Int} {b : Option Int} : wsum n L (comeM M p r b) ≤ wsum n L M ∧ (p < n → r ∈ L → newM M p r b = true → wsum n L (comeM M p r b) < wsum n L M) := by
  have h1 : ∀ a, sumL (fun t => wt (comeM M p r b a t)) L ≤ sumL (fun t => wt (M a t)) L := fun a => sumL_le (fun t => (wt_come a t).1) L
  exact ⟨sumP_le h1 n, fun hp hr hn => sumP_lt h1 (s := p) (sumL_lt (fun t => (wt_come p t).1) (s := r) ((wt_come p r).2 rfl rfl hn) hr) hp⟩
theorem wsum_top (n : Nat) (L : List Int) (M : Km) : wsum n L M ≤ n * (2 * L.length) := sumP_top (fun p => sumL_top (fun r => by cases h : M p r with | none => exact Nat.zero_le _ | some v => obtain ⟨_, t⟩ := v; cases t <;> simp [wt]) L) n
/-- What was not told stays as it was asked, or is told. -/
theorem come_unt {M : Km} {p a : Nat} {r t : Int} {b : Option Int} {m : Int} (h : comeM M p r b a t = some (m, false)) : M a t = some (m, false) := by
  have key : ∀ v, comeM M p r b = setM M p r v → v ≠ some (m, false) → M a t = some (m, false) := fun v e hv => by
    rw [e] at h
    by_cases h1 : a = p ∧ t = r
    · obtain ⟨rfl, rfl⟩ := h1
      rw [setM_at] at h
      exact absurd h hv
    · rw [setM_of h1] at h
      exact h
  cases hM : M p r with
  | none => have e : comeM M p r b = M := by unfold comeM; rw [hM]
            rw [e] at h; exact h
  | some v =>
    obtain ⟨k, t'⟩ := v
    cases t' with
    | true =>
      by_cases hb : b = some k
      · have e : comeM M p r b = M := by unfold comeM; rw [hM]; simp [hb]
        rw [e] at h; exact h
      · exact key none (by unfold comeM; rw [hM]; simp [hb]) (by simp)
    | false =>
      cases b with
      | some m => exact key (some (m, true)) (by unfold comeM; rw [hM]) (by simp)
      | none => exact key none (by unfold comeM; rw [hM]) (by simp)
theorem come_some {M : Km} {p a : Nat} {r t : Int} {b : Option Int} (h : comeM M p r b a t ≠ none) : M a t ≠ none := fun e => by
  have := (wt_come (M := M) (p := p) (r := r) (b := b) a t).1
  rw [e] at this
  cases hc : comeM M p r b a t with
  | none => exact h hc
  | some v =>
    rw [hc] at this
    obtain ⟨_, t'⟩ := v
    cases t' <;> simp [wt] at this
theorem come_else {M : Km} {p a : Nat} {r t : Int} {b : Option Int} {v : Option (Int × Bool)} (h : comeM M p r b a t = v) : M a t = v ∨ (a = p ∧ t = r) := by
  by_cases e : a = p ∧ t = r
  · exact .inr e
  · left
    have key : ∀ u, comeM M p r b = setM M p r u → M a t = v := fun u k => by rw [k, setM_of e] at h; exact h
    cases hM : M p r with
    | none => have k : comeM M p r b = M := by unfold comeM; rw [hM]
              rw [k] at h; exact h
    | some w =>
      obtain ⟨k, t'⟩ := w
      cases t' with
      | true =>
        by_cases hb : b = some k
        · have k : comeM M p r b = M := by unfold comeM; rw [hM]; simp [hb]
          rw [k] at h; exact h
        · exact key none (by unfold comeM; rw [hM]; simp [hb])
      | false =>
        cases b with
        | some m => exact key (some (m, true)) (by unfold comeM; rw [hM])
        | none => exact key none (by unfold comeM; rw [hM])
/-- The place that came anew is not untold. -/
theorem come_at {M : Km} {p : Nat} {r : Int} {b : Option Int} (h : newM M p r b = true) : ¬ unt (comeM M p r b) p r := fun ⟨m, hm⟩ => by
  have h1 := come_unt hm
  have h2 := (wt_come (M := M) (p := p) (r := r) (b := b) p r).2 rfl rfl h
  rw [hm, h1] at h2
  simp [wt] at h2
/-- What holds while it is told: Ex waits besides. -/
structure TL (c : List Ic) (fr : Nat → List Nat) (tg : Nat → Bool) (Q : Nat → Int → Prop) (Ld : Nat → Int → List Nat) (L : List Int) (n K : Nat) (M : Km) (PW : List Nat) (RW : Nat → List Int) (Ex : Nat → Int → Nat → Prop) : Prop where
  ti : TI c fr tg Q Ld M fun s r p => r ∈ RW s ∨ Ex s r p
  nb : ∀ s r p, r ∈ RW s ∨ Ex s r p → dfn c s = r ∨ ¬ unt M s r
  qi : QI n PW RW
  rk : ∀ s r, r ∈ RW s → In6 r
  rr : ∀ s r, r ∈ RW s → Rc c s
  un0 : ∀ p r m, M p r = some (m, false) → m = 0
  ml : ∀ p r, M p r ≠ none → p < n ∧ r ∈ L
  bd : ∀ a, (RW a).length + 2 * wsum n L M ≤ K
  rt : ∀ p r k, M p r = some (k, true) → Rc c p
section
variable {c : List Ic} {fr : Nat → List Nat} {tg : Nat → Bool} {Q : Nat → Int → Prop} {Ld : Nat → Int → List Nat} {L : List Int} {n K : Nat} {M : Km} {PW : List Nat} {RW : Nat → List Int} {Ex Ey : Nat → Int → Nat → Prop} {E : Nat → Int → Prop} {s p : Nat} {r : Int} {b : Option Int} {rest : List Nat}
theorem TL.weak (h : TL c fr tg Q Ld L n K M PW RW Ex) (hw : ∀ s r p, p ∈ Ld s r → Ex s r p → r ∈ RW s ∨ Ey s r p ∨ Blk c M s r) (hn : ∀ s r p, Ey s r p → dfn c s = r ∨ ¬ unt M s r) : TL c fr tg Q Ld L n K M PW RW Ey := ⟨h.ti.weak fun s r p hm hx => by
    rcases hx with hx | hx
    · exact .inl (.inl hx)
    · rcases hw s r p hm hx with k | k | k
      · exact .inl (.inl k)
      · exact .inl (.inr k)
      · exact .inr k, fun s r p hx => by
    rcases hx with hx | hx
    · exact h.nb s r p (.inl hx)
    · exact hn s r p hx, h.qi, h.rk, h.rr, h.un0, h.ml, h.bd, h.rt⟩
/-- The first place is taken. -/
theorem TL.next {a : Nat} {P : List Nat} (h : TL c fr tg Q Ld L n K M (a :: P) RW fun _ _ _ => False) : TL c fr tg Q Ld L n K M P (fun i => if i = a then [] else RW i) (fun s r _ => s = a ∧ r ∈ RW a) := by
  have hm : ∀ s r, r ∈ RW s → r ∈ (if s = a then [] else RW s) ∨ (s = a ∧ r ∈ RW a) := fun s r hr => by
    by_cases e : s = a
    · subst e; exact .inr ⟨rfl, hr⟩
    · rw [if_neg e]; exact .inl hr
  have hm2 : ∀ s r, r ∈ (if s = a then [] else RW s) ∨ (s = a ∧ r ∈ RW a) → r ∈ RW s := fun s r hr => by
    rcases hr with hr | ⟨e, hr⟩
    · by_cases e : s = a
      · rw [if_pos e] at hr; cases hr
      · rw [if_neg e] at hr; exact hr
    · rw [e]; exact hr
  refine ⟨h.ti.weak fun s r p _ hx => ?_, fun s r p hx => h.nb s r p (.inl (hm2 s r hx)), h.qi.next, fun s r hr => h.rk s r (hm2 s r (.inl hr)), fun s r hr => h.rr s r (hm2 s r (.inl hr)), h.un0, h.ml, fun i => ?_, h.rt⟩
  · rcases hx with hx | hx
    · exact .inl (hm s r hx)
    · exact hx.elim
  · have := h.bd i
    by_cases e : i = a
    · simp only [e]; simp; omega
    · simp only [if_neg e]; exact this
/-- One way tells. -/
theorem TL.come (hk : Okc c) (hd6 : ∀ a, In6 (dfn c a)) (hr6 : In6 r) (hp : p < n) (hrp : Rc c p) (h : TL c fr tg Q Ld L n K M PW RW fun a t p' => E a t ∨ (a = s ∧ t = r ∧ p' ∈ p :: rest)) (hpl : p ∈ Ld s r)
    (hU : ∀ G, Cons c G → ∀ m, G p r = some m → b = some m) (hs : (r ∈ RW s ∨ E s r) ∨ bX c M s r = b) (hE : ∀ a t, E a t → dfn c a = t ∨ ¬ unt M a t) (hsr : dfn c s = r ∨ ¬ unt M s r) :
    TL c fr tg Q Ld L n K (comeM M p r b) (puts p (comeL c tg M p r b) (PW, RW)).1 (puts p (comeL c tg M p r b) (PW, RW)).2 (fun a t p' => E a t ∨ (a = s ∧ t = r ∧ p' ∈ rest)) ∧
    ((r ∈ (puts p (comeL c tg M p r b) (PW, RW)).2 s ∨ E s r) ∨ bX c (comeM M p r b) s r = b) ∧ 2 * wsum n L (comeM M p r b) + (puts p (comeL c tg M p r b) (PW, RW)).1.length ≤ 2 * wsum n L M + PW.length ∧ wsum n L (comeM M p r b) ≤ wsum n L M := by
  have hle : ∀ l : List Int, comeL c tg M p r b = l → l.length ≤ 2 := fun l e => by
    rw [← e]
    unfold comeL
    split
    · rw [List.length_append]
      have h1 : (if dfn c p ≠ r ∧ tg p = true then [r] else []).length ≤ 1 := by split <;> simp
      have h2 : (if r ∈ nds c p then [dfn c p] else []).length ≤ 1 := by split <;> simp
      omega
    · simp
  have hnl : newM M p r b = false → comeL c tg M p r b = [] := fun e => by unfold comeL; rw [e]; simp
  have hmem : ∀ t, t ∈ comeL c tg M p r b → newM M p r b = true ∧ (t = r ∨ (t = dfn c p ∧ r ∈ nds c p)) := fun t ht => by
    unfold comeL at ht
    split at ht
    · rename_i hn
      refine ⟨hn, ?_⟩
      rcases List.mem_append.1 ht with ht | ht
      · split at ht
        · exact .inl (by simpa using ht)
        · cases ht
      · split at ht
        · rename_i hi; exact .inr ⟨by simpa using ht, hi⟩
        · cases ht
    · cases ht
  have hM : ∀ a t, unt (comeM M p r b) a t → unt M a t := fun a t ⟨m, hm⟩ => ⟨m, come_unt hm⟩
  obtain ⟨h1, h2⟩ := TI.come (Wq := fun a t => t ∈ RW a ∨ E a t) (Wr := fun a t => t ∈ (puts p (comeL c tg M p r b) (PW, RW)).2 a ∨ E a t) (s := s) (r := r) (p := p) (rest := rest) (b := b) hk
    (h.ti.weak fun a t p' _ hx => .inl (by
      rcases hx with hx | hx | hx
      · exact .inl (.inl hx)
      · exact .inl (.inr hx)
      · exact .inr hx)) hpl hU hs (fun a t hx => by
      rcases hx with hx | hx
      · exact .inl ((puts_mem _ _).2 (.inl hx))
      · exact .inr hx) (fun hn t hl hdp => by
      refine .inl ((puts_mem _ _).2 (.inr ⟨rfl, ?_⟩))
      unfold comeL
      rw [if_pos hn]
      rcases hdp.2 with ⟨rfl, hd⟩ | ⟨rfl, hin⟩
      · obtain ⟨p', hp'⟩ := List.exists_mem_of_ne_nil _ hl
        obtain ⟨-, q, -, hq⟩ := h.ti.lq p t p' hp'
        have ht := hq.at.resolve_left hd
        rw [if_pos ⟨hd, ht⟩]
        simp
      · rw [if_pos hin]
        simp)
  have hws := wsum_come (n := n) (L := L) (M := M) (p := p) (r := r) (b := b)
  have hin : newM M p r b = true → wsum n L (comeM M p r b) < wsum n L M := fun hn => by
    have hne : M p r ≠ none := fun e => by unfold newM at hn; rw [e] at hn; cases hn
    obtain ⟨e1, e2⟩ := h.ml p r hne
    exact hws.2 e1 e2 hn
  refine ⟨⟨h1.weak fun a t p' _ hx => .inl (by
      rcases hx with (hx | hx) | hx
      · exact .inl hx
      · exact .inr (.inl hx)
      · exact .inr (.inr hx)), fun a t p' hx => ?_, puts_qi hp _ _ h.qi, fun a t hx => ?_, fun a t hx => ?_, fun a t m hm => h.un0 a t m (come_unt hm), fun a t hm => h.ml a t (come_some hm), fun a => ?_, fun a t k hm => ?_⟩, h2, ?_, hws.1⟩
  · rcases hx with hx | hx | ⟨rfl, rfl, -⟩
    · rcases (puts_mem _ _).1 hx with hx | ⟨rfl, hx⟩
      · exact (h.nb a t p' (.inl hx)).imp id fun k k2 => k (hM _ _ k2)
      · obtain ⟨hn, rfl | ⟨rfl, -⟩⟩ := hmem t hx
        · exact .inr (come_at hn)
        · exact .inl rfl
    · exact (hE a t hx).imp id fun k k2 => k (hM _ _ k2)
    · exact hsr.imp id fun k k2 => k (hM _ _ k2)
  · rcases (puts_mem _ _).1 hx with hx | ⟨rfl, hx⟩
    · exact h.rk a t hx
    · obtain ⟨hn, rfl | ⟨rfl, -⟩⟩ := hmem t hx
      · exact hr6
      · exact hd6 a
  · rcases (puts_mem _ _).1 hx with hx | ⟨rfl, hx⟩
    · exact h.rr a t hx
    · exact hrp
  · have hb := h.bd a
    by_cases e : a = p
    · subst e
      have hl := (puts_len a (comeL c tg M a r b) (PW, RW)).2
      rw [hl]
      cases hn : newM M a r b with
      | true =>
        have := hin hn
        have := hle _ rfl
        simp only
        omega
      | false =>
        rw [hnl hn]
        have := hws.1
        simp only [List.length_nil]
        omega
    · rw [puts_other e]
      have := hws.1
      simp only
      omega
  · rcases come_else hm with h1 | h1
    · exact h.rt a t k h1
    · rw [h1.1]; exact hrp
  · cases hn : newM M p r b with
    | true =>
      have := hin hn
      have := (puts_one (a := p) (comeL c tg M p r b) (PW, RW)).1
      simp only at this
      omega
    | false =>
      rw [hnl hn]
      have := hws.1
      show _ + PW.length ≤ _
      omega
end
end Go.Proofs.YtgdhgipofaaogaaDoor
namespace Go.Proofs.YtgdhgipofaaogaaDoor
open Go Go.RowKit Gm Go.ChangeMaps

theorem contains_c {W : World} {p : Option Addr} {k : Nat} {l : List Int} {r : Int} (h : RV W p l.length (iv fun j => l.getD j 0)) (hl : l.length ≤ 1000) : Calls Tryd.prog 63 #[.slice p l.length k, .int .i64 r] W fun e w' => e = .returned (.bool (l.contains r)) ∧ w' = W := by
  cases l with
  | nil => exact Tryd.slices_Contains_int_empty p k r W
  | cons x t =>
    obtain ⟨g, o, rfl, -, -⟩ := h 0 (by simp)
    have := Tryd.slices_Contains_int g o (x :: t).length k (x :: t) r W (Nat.le_refl _) (by omega) (fun j hj => by
      obtain ⟨g', o', e, -, h2⟩ := h j hj
      cases e
      exact h2)
    rw [List.take_length] at this
    exact this
theorem Sb5.one {X : World} {m : Nat} {v0 v1 v2 v3 v4 : Value} (h : Sb5 X m v0 v1 v2 v3 v4) : X.cell? ⟨m, 1, none⟩ = some v1 := by rw [cell_of_row _ _ _ _ _ _ h]; rfl
def OEq (n : Nat) (o p : Nat → Ob) : Prop := ∀ b, b < n → o b = p b
def FEq (F G : Nat → Value) : Prop := ∀ i, i ≠ 6 → F i = G i
theorem ef_del {M : Km} {a : Nat} {r : Int} (s : Int) : KF.del (fun s => (M a s).map fv2) r s = (setM M a r none a s).map fv2 := by
  unfold KF.del setM
  by_cases e : s = r
  · simp [e]
  · simp [e]
theorem ef_put {M : Km} {a : Nat} {r : Int} {v : Int × Bool} (s : Int) : KF.upd (fun s => (M a s).map fv2) r (fv2 v) s = (setM M a r (some v) a s).map fv2 := by
  unfold KF.upd setM
  by_cases e : s = r
  · simp [e]
  · simp [e]
theorem comeL_new {c : List Ic} {tg : Nat → Bool} {M : Km} {a : Nat} {r : Int} {b : Option Int} (h : newM M a r b = true) : comeL c tg M a r b = (if dfn c a ≠ r ∧ tg a = true then [r] else []) ++ if r ∈ nds c a then [dfn c a] else [] := if_pos h
theorem comeL_old {c : List Ic} {tg : Nat → Bool} {M : Km} {a : Nat} {r : Int} {b : Option Int} (h : newM M a r b = false) : comeL c tg M a r b = [] := if_neg (by rw [h]; simp)
end Go.Proofs.YtgdhgipofaaogaaDoor
namespace Go.Proofs.YtgdhgipofaaogaaDoor
open Go Go.RowKit Gm Go.ChangeMaps
set_option maxRecDepth 100000 in
set_option maxHeartbeats 4000000 in
theorem come_ff {B : Nat} {own : Nat → Ob} {W : World} {g kb lb sb n rw a : Nat} {F KV LV VW : Nat → Value} {M : Km} {Lf : Nat → KF} {Ld : Nat → Int → List Nat} {PW : List Nat} {RW : Nat → List Int} {r : Int} {L : List Int} {c : List Ic} {rc tg : Nat → Bool} {fr : Nat → List Nat} (hA : Hid (TA B own W g kb lb n rw F KV LV VW M Lf Ld PW RW)) (hF1 : F 1 = .slice (some ⟨sb, 0, none⟩) n n) (hM : Hid (StO own W sb n c rc tg fr)) (hra : rc a = true) (ha : a < n) (hn : n ≤ 5000) (hr : In6 r) (hB : B ≤ W.heap.size) (hPW : PW.length ≤ 500000) (hRW : (RW a).length ≤ 500000) (hLk : Hid (∀ s, M a s ≠ none → s ∈ L)) (hLl : L.length ≤ 1000000) (hndl : (nds c a).length ≤ 1000) (x : Int) {k : Int} (hMr : M a r = some (k, false)) : Calls Tryd.prog 45 #[.pointer (some ⟨g, 0, none⟩), .int .i64 a, .int .i64 r, .int .i64 x, .bool false] W (ComeP B own W g kb lb n rw F KV LV M Lf Ld PW RW c tg a r (boK x false)) := by
  have hF := Lib.hid hA.out.fv
  have hog := hA.out.og
  have hg0 := hF.out.lt
  have c2 := hF.out.cell (i := 2) (by omega)
  rw [hA.out.f2] at c2
  have hkb := hA.out.km.fv.lt
  have ck := hA.out.km.fv.cell ha
  have hlk := hA.out.km.look2 ha hr
  obtain ⟨m, hkv, hom, hkm⟩ : ∃ m, KV a = .map (some m) ∧ own m = .km a ∧ KM 3 W m L.length (fun s => (M a s).map fv2) := by
    rcases hA.out.km.mp a ha with ⟨-, h2⟩ | ⟨m, cnt, h1, h2, h3⟩
    · rw [h2 r] at hMr; cases hMr
    · exact ⟨m, h1, h2, h3.within L fun s hs => hLk.out s fun e => hs (by simp only [e]; rfl)⟩
  have hmW := hkm.lt
  have HKM := Lib.hid hkm
  have hk2 : kmv M a r = (k, false) := by unfold kmv; rw [hMr]; rfl
  rw [hMr, hk2, hkv] at hlk
  rw [hkv] at ck
  simp only [Option.isSome] at hlk
  have hLm : L.length < maxLen := by unfold maxLen; omega
  have hkr := keyI hr
  have HMr := Lib.hid hMr
  have HKV := Lib.hid hkv
  have HOM := Lib.hid hom
  clear hkm hk2 hMr hkv
  have HK0 : Hid (∀ X, Ch (fun _ => False) W X → KM 3 X m L.length (fun s => (M a s).map fv2)) := Lib.hid fun X hX => HKM.out.same (hX.block m hmW id)
  go_enter Tryd.func45, Tryd.ntmps45
  go_upto_region 2 with (fail)
  refine name_world ?_
  intro W1 hW1
  have HC1 : Hid (Ch (fun _ => False) W W1) := Lib.hid (by rw [hW1]; exact (Ch.refl (fun _ => False) W).alloc _)
  obtain ⟨m2, hm2⟩ : ∃ x, W.heap.size = x := ⟨_, rfl⟩
  have HFB : Hid (W1.heap[m2]? = some (.cells #[.int .i64 k, .bool false] 98 (0, 0))) := Lib.hid (by rw [hW1, ← hm2]; exact heap_alloc_new W _)
  have q0 : W1.cell? ⟨m2, 0, none⟩ = some (.int .i64 k) := by rw [cell_of_row _ _ _ _ _ _ HFB.out]; rfl
  have q1 : W1.cell? ⟨m2, 1, none⟩ = some (.bool false) := by rw [cell_of_row _ _ _ _ _ _ HFB.out]; rfl
  have q2 : m2 < W1.heap.size := (Array.getElem?_eq_some_iff.1 HFB.out).1
  have HKMx := Lib.hid (HK0.out W1 HC1.out)
  have HA1 : Hid (TA B own W1 g kb lb n rw F KV LV VW M Lf Ld PW RW) := Lib.hid (hA.out.ch HC1.out (fun _ _ => rfl) fun _ _ h => h)
  have c2 := (HC1.out.cell (b := g) hg0 id).trans c2
  have ck := (HC1.out.cell (b := kb) hkb id).trans ck
  have hg0 := Nat.lt_of_lt_of_le hg0 HC1.out.size
  have hkb := Nat.lt_of_lt_of_le hkb HC1.out.size
  try rw [hm2]
  clear hW1 hm2 hlk
  obtain ⟨Mn, hMn⟩ : ∃ y, setM M a r (none) = y := ⟨_, rfl⟩
  have HMn : Hid (comeM M a r (boK x false) = Mn) := Lib.hid (by rw [← hMn]; unfold comeM boK; simp [HMr.out])
  have hnew : newM M a r (boK x false) = true := by unfold newM boK; simp [HMr.out]
  have HNW := Lib.hid hnew
  clear hnew
  go_upto_region 5 with (at_delete; refine wpList_strikeK rfl (.tmp 31) (.tmp 32) rfl keyedI Tryd.underlying100 m L.length _ rfl HKMx.out r rfl hkr ?_; intro w5 hk5 hg5; have HW5 := Lib.hid (And.intro hk5 hg5); clear hk5 hg5)
  have HA5 : Hid (TA B own w5 g kb lb n rw F KV LV VW Mn Lf Ld PW RW) := Lib.hid (hMn ▸ HA1.out.setK HKV.out HOM.out HW5.out.1 ef_del HW5.out.2)
  have HCm : Hid (Ch (fun z => z = m) W w5) := Lib.hid ((HC1.out.mono fun _ _ h => h.elim).grown HW5.out.2 fun b e => .inl (by cases e; rfl))
  have HM5 : Hid (StO own w5 sb n c rc tg fr) := Lib.hid (hM.out.ch HCm.out (fun _ _ => rfl) fun b hb e => by rw [e, HOM.out] at hb; cases hb)
  have HC5 : Hid (Ch (TS own) W w5) := Lib.hid (HCm.out.mono fun z _ e => .inr (.inl ⟨a, by rw [e]; exact HOM.out⟩))
  have hnew := HNW.out
  clear hMn c2 ck q0 q1 q2 hkb hg0 hmW HK0 HKMx hom
  have hsl5 := HM5.out.st.sl
  have hg5l := HA5.out.fv.lt
  have d1 := HA5.out.fv.cell (i := 1) (by omega)
  rw [hF1] at d1
  have t0 := HM5.out.st.r a ha
  have t1 := HM5.out.st.t a ha
  obtain ⟨pf, kf, t2, hvf⟩ := HM5.out.st.f a ha
  have t3 := HM5.out.st.d a ha hra
  obtain ⟨pn, kn, t4, hvn⟩ := HM5.out.st.nn a ha hra
  rw [hra] at t0
  have HVN := Lib.hid hvn
  clear hvf hvn
  go_upto_region 6 with (fail)
  refine name_world ?_
  intro V1 hV1
  obtain ⟨m5, hm5⟩ : ∃ x, w5.heap.size = x := ⟨_, rfl⟩
  have HV1 : Hid (Sb5 V1 m5 (.bool true) (.bool (tg a)) (.slice pf (fr a).length kf) (.int .i64 (dfn c a)) (.slice pn (nds c a).length kn)) := Lib.hid (by rw [hV1, ← hm5]; exact heap_alloc_new w5 _)
  have HC6 : Hid (Ch (fun _ => False) w5 V1) := Lib.hid (by rw [hV1]; exact (Ch.refl (fun _ => False) w5).alloc _)
  obtain ⟨own1, ho1⟩ : ∃ o, ownM own m5 .no = o := ⟨_, rfl⟩
  have HO5 : Hid (∀ b, b < w5.heap.size → own1 b = own b) := Lib.hid fun b hb => by rw [← ho1]; exact ownM_of (by omega)
  have hom5 : own1 m5 = .no := by rw [← ho1]; exact ownM_at
  have HNM : Hid (¬ TS own1 m5) := Lib.hid fun h => by
    unfold TS at h
    rw [hom5] at h
    rcases h with h | ⟨_, h⟩ | h | h | ⟨_, h⟩ <;> cases h
  have HA6 : Hid (TA B own1 V1 g kb lb n rw F KV LV VW Mn Lf Ld PW RW) := Lib.hid (HA5.out.ch HC6.out HO5.out fun _ _ h => h)
  have HVN6 := Lib.hid (HVN.out.ch HC6.out fun _ _ h => h)
  try rw [hm5]
  have HC7 : Hid (Ch (TS own) W V1) := Lib.hid (HC5.out.trans (HC6.out.mono fun _ _ h => h.elim))
  have HB7 : Hid (B ≤ V1.heap.size) := Lib.hid (Nat.le_trans hB HC7.out.size)
  have HEND : Hid (∀ (v : Value) (X : World) (own' : Nat → Ob) (F' VW' : Nat → Value) (l : List Int), l = comeL c tg M a r (boK x false) → (∀ b, b < V1.heap.size → own' b = own1 b) → (∀ i, i ≠ 6 → F' i = F i) → TA B own' X g kb lb n rw F' KV LV VW' Mn Lf Ld (puts a l (PW, RW)).1 (puts a l (PW, RW)).2 → Ch (TS own1) V1 X → ComeP B own W g kb lb n rw F KV LV M Lf Ld PW RW c tg a r (boK x false) (.returned v) X) := Lib.hid fun v X own' F' VW' l e1 h1 h2 h3 h4 => by
    subst e1
    have hsz : W.heap.size ≤ w5.heap.size := HC5.out.size
    refine ⟨v, own', F', VW', rfl, fun b hb => ?_, h2, by rw [HMn.out]; exact h3, ?_⟩
    · rw [h1 b (Nat.lt_of_lt_of_le hb HC7.out.size), HO5.out b (Nat.lt_of_lt_of_le hb hsz)]
    · refine Ch.fresh HC7.out h4 fun b hb h => ?_
      unfold TS at h ⊢
      rw [HO5.out b (Nat.lt_of_lt_of_le hb hsz)] at h
      exact h
  have HNO : Hid (∀ ad, pn = some ad → ¬ TS own1 ad.block) := Lib.hid fun ad e h => by
    obtain ⟨e1, e2⟩ := HM5.out.of _ ad _ kn (e ▸ t4)
    unfold TS at h
    rw [HO5.out _ e2, e1] at h
    rcases h with h | ⟨_, h⟩ | h | h | ⟨_, h⟩ <;> cases h
  have HCV : Hid (Ch (TS own1) V1 V1) := Lib.hid (Ch.refl _ _)
  have HO0 : OEq V1.heap.size own1 own1 := fun _ _ => rfl
  have HF0 : FEq F F := fun _ _ => rfl
  have HL := Lib.hid (comeL_new (c := c) (tg := tg) hnew)
  clear hV1 hm5 t0 t1 t2 t3 t4 d1 hsl5 hg5l ho1 hom5
  obtain ⟨bm, u3, u4⟩ := HV1.out.facts
  have u1 := HV1.out.one
  by_cases hd : r = dfn c a
  · have hdb : (r != dfn c a) = false := by simp [hd]
    have hl1 : Hid (comeL c tg M a r (boK x false) = [] ++ if r ∈ nds c a then [dfn c a] else []) := Lib.hid (by rw [HL.out, if_neg (fun h => h.1 hd.symm)])
    have HD := Lib.hid hd
    clear hd
    have HCON : Hid (Calls Tryd.prog 63 #[.slice pn (nds c a).length kn, .int .i64 r] V1 fun e w' => e = .returned (.bool ((nds c a).contains r)) ∧ w' = V1) := Lib.hid (contains_c (HVN6.out.ch HCV.out fun ad e => HNO.out ad e) hndl)
    by_cases hin : r ∈ nds c a
    · have hcb : (nds c a).contains r = true := by simpa using hin
      rw [hcb] at HCON
      have HIN := Lib.hid hin
      clear hin hcb
      have hg2l := HA6.out.fv.lt
      go_upto_region 9 with (go_at_call 63; (with_reducible refine (HCON.out).mono ?_); rintro e3 w3 ⟨rfl, hw3⟩; rw [hw3]; clear hw3 w3)
      have HC9 : Hid (Ch (TS own1) V1 V1.drew) := Lib.hid (HCV.out.stepB (below_drew1 _))
      have HA9 : Hid (TA B own1 V1.drew g kb lb n rw F KV LV VW Mn Lf Ld (puts a ([] : List Int) (PW, RW)).1 (puts a ([] : List Int) (PW, RW)).2) := Lib.hid (HA6.out.ch (S := fun _ => False) (Ch.of (below_drew1 _)) (fun _ _ => rfl) fun _ _ h => h)
      have HPB : Hid (Calls Tryd.prog 20 #[.pointer (some ⟨g, 6, none⟩), .int .i64 a, .int .i64 (dfn c a)] V1.drew (PutP B own1 V1.drew g 6 n rw F VW (puts a ([] : List Int) (PW, RW)).1 (puts a ([] : List Int) (PW, RW)).2 a (dfn c a))) := Lib.hid (put_c (Lib.hid HA9.out.fv) HA9.out.f7 (by omega) (Lib.hid HA9.out.qw) HA9.out.og ha hn (Nat.le_trans HB7.out HC9.out.size) (by have := puts_len a ([] : List Int) (PW, RW); simp only [List.length_cons, List.length_nil] at this; omega) (by have := puts_len a ([] : List Int) (PW, RW); simp only [List.length_cons, List.length_nil] at this; omega))
      have u3 := (HCV.out.cell (b := m5) bm HNM.out).trans u3
      have bm2 := Nat.lt_of_lt_of_le bm HCV.out.size
      have hnq : ¬ QS own1 g 6 m5 := fun h => HNM.out (by
        have h := QS.ts HA6.out.og h
        unfold TS at h ⊢
        rw [HO0 m5 bm] at h
        exact h)
      refine region_held1 (fun w' => Ch (QS own1 g 6) V1 w') (by kernel_rfl) ?_
      show wpAnyH _ _ _ _ _ 7 _ _ _
      have hS0 : Ch (QS own1 g 6) V1 V1.drew := Ch.of (below_drew1 _)
      refine takeH (i := 0) (v := .pointer (some ⟨g, 0, none⟩)) (some 91) rfl rfl (by kernel_rfl) (by kernel_rfl) (by kernel_rfl) (Or.inl ⟨by rfl, ?_⟩) hS0 ?_
      · intro y1 hS1
        go_simp
      simp only [Act.put, List.setIfInBounds_toArray, List.set_cons_zero, List.set_cons_succ]
      refine takeH (i := 1) (v := .pointer (some ⟨g, 0, none⟩)) (some 92) rfl rfl (by kernel_rfl) (by kernel_rfl) (by kernel_rfl) (Or.inl ⟨by rfl, ?_⟩) hS0 ?_
      · intro y1 hS1
        go_simp
      simp only [Act.put, List.setIfInBounds_toArray, List.set_cons_zero, List.set_cons_succ]
      refine takeH (i := 2) (v := .pointer (some ⟨g, 5 + 1, none⟩)) (some 93) rfl rfl (by kernel_rfl) (by kernel_rfl) (by kernel_rfl) (Or.inl ⟨by rfl, ?_⟩) hS0 ?_
      · intro y1 hS1
        go_simp
      simp only [Act.put, List.setIfInBounds_toArray, List.set_cons_zero, List.set_cons_succ]
      refine takeH (i := 3) (v := .int .i64 (a : Int)) (some 94) rfl rfl (by kernel_rfl) (by kernel_rfl) (by kernel_rfl) (Or.inl ⟨by rfl, ?_⟩) hS0 ?_
      · intro y1 hS1
        go_simp
      simp only [Act.put, List.setIfInBounds_toArray, List.set_cons_zero, List.set_cons_succ]
      refine takeH (i := 4) (v := .pointer (some ⟨m5, 3, none⟩)) (some 95) rfl rfl (by kernel_rfl) (by kernel_rfl) (by kernel_rfl) (Or.inl ⟨by rfl, ?_⟩) hS0 ?_
      · intro y1 hS1
        go_simp
      simp only [Act.put, List.setIfInBounds_toArray, List.set_cons_zero, List.set_cons_succ]
      refine takeH (i := 5) (v := .int .i64 (dfn c a)) (some 96) rfl rfl (by kernel_rfl) (by kernel_rfl) (by kernel_rfl) (Or.inl ⟨by rfl, ?_⟩) hS0 ?_
      · intro y1 hS1
        have u3 := (hS1.cell (b := m5) bm2 hnq).trans u3
        go_simp
      simp only [Act.put, List.setIfInBounds_toArray, List.set_cons_zero, List.set_cons_succ]
      refine wpAnyH_all (rs := [6]) (by kernel_rfl) (by simp) ?_
      intro i6 hi6
      obtain rfl : i6 = 6 := by simpa using hi6
      refine wpOp_call (some 97) rfl rfl (by rfl) (f := 20) (args := #[.pointer (some ⟨g, 6, none⟩), .int .i64 a, .int .i64 (dfn c a)]) (by go_simp) HPB.out ?_
      intro e4 w4 hp
      obtain ⟨v4, own4, F4, VW4, rfl, h1, h2, h3, h4⟩ := HA9.out.putW hp
      refine ⟨_, rfl, ?_, ?_⟩
      · obtain ⟨_, _, _, _, -, -, -, -, h5⟩ := hp
        exact hS0.trans (h5.mono fun z _ h => h)
      simp only [Act.put, List.setIfInBounds_toArray, List.set_cons_zero, List.set_cons_succ]
      refine wpAnyH_done (by kernel_rfl) ?_ _
      refine ⟨rfl, ?_⟩
      have HX := Lib.hid (And.intro h1 (And.intro h2 (And.intro h3 h4)))
      clear h1 h2 h3 h4 hp
      go_wp2
      refine bodyPost_ret (results_none rfl _ _ _) rfl (HEND.out _ _ own4 F4 VW4 (([] : List Int) ++ [dfn c a]) (by rw [hl1.out, if_pos HIN.out]) (fun b hb => (HX.out.1 b (Nat.lt_of_lt_of_le hb HC9.out.size)).trans (HO0 b hb)) (fun i hi => (HX.out.2.1 i hi).trans (HF0 i hi)) (by rw [puts_end]; exact HX.out.2.2.1) (HC9.out.fresh HX.out.2.2.2 fun b hb h => by
        unfold TS at h ⊢
        rw [HO0 b hb] at h
        exact h))
    · have hcb : (nds c a).contains r = false := by simpa using hin
      rw [hcb] at HCON
      have HIN := Lib.hid hin
      clear hin hcb
      go_wp2_with (go_at_call 63; (with_reducible refine (HCON.out).mono ?_); rintro e3 w3 ⟨rfl, hw3⟩; rw [hw3]; clear hw3 w3)
      refine bodyPost_ret (results_none rfl _ _ _) rfl (HEND.out _ _ own1 F VW ([] : List Int) (by rw [hl1.out, if_neg HIN.out]; simp) HO0 HF0 HA6.out HCV.out)
  · have hdb : (r != dfn c a) = true := by simp [hd]
    have HD := Lib.hid hd
    clear hd
    by_cases ht : tg a = true
    · have hl1 : Hid (comeL c tg M a r (boK x false) = [r] ++ if r ∈ nds c a then [dfn c a] else []) := Lib.hid (by rw [HL.out, if_pos ⟨fun h => HD.out h.symm, ht⟩])
      have HT := Lib.hid ht
      rw [ht] at u1
      clear ht
      have HPUTA : Hid (Calls Tryd.prog 20 #[.pointer (some ⟨g, 6, none⟩), .int .i64 a, .int .i64 r] V1 (PutP B own1 V1 g 6 n rw F VW PW RW a r)) := Lib.hid (put_c (Lib.hid HA6.out.fv) HA6.out.f7 (by omega) (Lib.hid HA6.out.qw) HA6.out.og ha hn HB7.out (by omega) (by omega))
      have hgl6 := HA6.out.fv.lt
      go_upto_region 8 with (go_at_call 20; (with_reducible refine (HPUTA.out).mono ?_); rintro e2 w2 hp; obtain ⟨v0, rfl⟩ : ∃ v0, e2 = .returned v0 := (by obtain ⟨v0, _, _, _, h, _⟩ := hp; exact ⟨v0, h⟩); have HP := Lib.hid hp; clear hp)
      obtain ⟨v1, own2, F2, VW2, -, g1, g2, g3, g4⟩ := HA6.out.putW HP.out
      have HA8 : Hid (TA B own2 w2 g kb lb n rw F2 KV LV VW2 Mn Lf Ld (puts a [r] (PW, RW)).1 (puts a [r] (PW, RW)).2) := Lib.hid g3
      have HC8 := Lib.hid g4
      have HO8 := Lib.hid g1
      have HF8 := Lib.hid g2
      clear g1 g2 g3 g4
      have u4 := (HC8.out.cell (b := m5) bm HNM.out).trans u4
      have HCON : Hid (Calls Tryd.prog 63 #[.slice pn (nds c a).length kn, .int .i64 r] w2 fun e w' => e = .returned (.bool ((nds c a).contains r)) ∧ w' = w2) := Lib.hid (contains_c (HVN6.out.ch HC8.out fun ad e => HNO.out ad e) hndl)
      by_cases hin : r ∈ nds c a
      · have hcb : (nds c a).contains r = true := by simpa using hin
        rw [hcb] at HCON
        have HIN := Lib.hid hin
        clear hin hcb
        have hg2l := HA8.out.fv.lt
        go_upto_region 9 with (go_at_call 63; (with_reducible refine (HCON.out).mono ?_); rintro e3 w3 ⟨rfl, hw3⟩; rw [hw3]; clear hw3 w3)
        have HC9 : Hid (Ch (TS own1) V1 w2.drew) := Lib.hid (HC8.out.stepB (below_drew1 _))
        have HA9 : Hid (TA B own2 w2.drew g kb lb n rw F2 KV LV VW2 Mn Lf Ld (puts a [r] (PW, RW)).1 (puts a [r] (PW, RW)).2) := Lib.hid (HA8.out.ch (S := fun _ => False) (Ch.of (below_drew1 _)) (fun _ _ => rfl) fun _ _ h => h)
        have HPB : Hid (Calls Tryd.prog 20 #[.pointer (some ⟨g, 6, none⟩), .int .i64 a, .int .i64 (dfn c a)] w2.drew (PutP B own2 w2.drew g 6 n rw F2 VW2 (puts a [r] (PW, RW)).1 (puts a [r] (PW, RW)).2 a (dfn c a))) := Lib.hid (put_c (Lib.hid HA9.out.fv) HA9.out.f7 (by omega) (Lib.hid HA9.out.qw) HA9.out.og ha hn (Nat.le_trans HB7.out HC9.out.size) (by have := puts_len a [r] (PW, RW); simp only [List.length_cons, List.length_nil] at this; omega) (by have := puts_len a [r] (PW, RW); simp only [List.length_cons, List.length_nil] at this; omega))
        have u3 := (HC8.out.cell (b := m5) bm HNM.out).trans u3
        have bm2 := Nat.lt_of_lt_of_le bm HC8.out.size
        have hnq : ¬ QS own2 g 6 m5 := fun h => HNM.out (by
          have h := QS.ts HA8.out.og h
          unfold TS at h ⊢
          rw [HO8.out m5 bm] at h
          exact h)
        refine region_held1 (fun w' => Ch (QS own2 g 6) w2 w') (by kernel_rfl) ?_
        show wpAnyH _ _ _ _ _ 7 _ _ _
        have hS0 : Ch (QS own2 g 6) w2 w2.drew := Ch.of (below_drew1 _)
        refine takeH (i := 0) (v := .pointer (some ⟨g, 0, none⟩)) (some 91) rfl rfl (by kernel_rfl) (by kernel_rfl) (by kernel_rfl) (Or.inl ⟨by rfl, ?_⟩) hS0 ?_
        · intro y1 hS1
          go_simp
        simp only [Act.put, List.setIfInBounds_toArray, List.set_cons_zero, List.set_cons_succ]
        refine takeH (i := 1) (v := .pointer (some ⟨g, 0, none⟩)) (some 92) rfl rfl (by kernel_rfl) (by kernel_rfl) (by kernel_rfl) (Or.inl ⟨by rfl, ?_⟩) hS0 ?_
        · intro y1 hS1
          go_simp
        simp only [Act.put, List.setIfInBounds_toArray, List.set_cons_zero, List.set_cons_succ]
        refine takeH (i := 2) (v := .pointer (some ⟨g, 5 + 1, none⟩)) (some 93) rfl rfl (by kernel_rfl) (by kernel_rfl) (by kernel_rfl) (Or.inl ⟨by rfl, ?_⟩) hS0 ?_
        · intro y1 hS1
          go_simp
        simp only [Act.put, List.setIfInBounds_toArray, List.set_cons_zero, List.set_cons_succ]
        refine takeH (i := 3) (v := .int .i64 (a : Int)) (some 94) rfl rfl (by kernel_rfl) (by kernel_rfl) (by kernel_rfl) (Or.inl ⟨by rfl, ?_⟩) hS0 ?_
        · intro y1 hS1
          go_simp
        simp only [Act.put, List.setIfInBounds_toArray, List.set_cons_zero, List.set_cons_succ]
        refine takeH (i := 4) (v := .pointer (some ⟨m5, 3, none⟩)) (some 95) rfl rfl (by kernel_rfl) (by kernel_rfl) (by kernel_rfl) (Or.inl ⟨by rfl, ?_⟩) hS0 ?_
        · intro y1 hS1
          go_simp
        simp only [Act.put, List.setIfInBounds_toArray, List.set_cons_zero, List.set_cons_succ]
        refine takeH (i := 5) (v := .int .i64 (dfn c a)) (some 96) rfl rfl (by kernel_rfl) (by kernel_rfl) (by kernel_rfl) (Or.inl ⟨by rfl, ?_⟩) hS0 ?_
        · intro y1 hS1
          have u3 := (hS1.cell (b := m5) bm2 hnq).trans u3
          go_simp
        simp only [Act.put, List.setIfInBounds_toArray, List.set_cons_zero, List.set_cons_succ]
        refine wpAnyH_all (rs := [6]) (by kernel_rfl) (by simp) ?_
        intro i6 hi6
        obtain rfl : i6 = 6 := by simpa using hi6
        refine wpOp_call (some 97) rfl rfl (by rfl) (f := 20) (args := #[.pointer (some ⟨g, 6, none⟩), .int .i64 a, .int .i64 (dfn c a)]) (by go_simp) HPB.out ?_
        intro e4 w4 hp
        obtain ⟨v4, own4, F4, VW4, rfl, h1, h2, h3, h4⟩ := HA9.out.putW hp
        refine ⟨_, rfl, ?_, ?_⟩
        · obtain ⟨_, _, _, _, -, -, -, -, h5⟩ := hp
          exact hS0.trans (h5.mono fun z _ h => h)
        simp only [Act.put, List.setIfInBounds_toArray, List.set_cons_zero, List.set_cons_succ]
        refine wpAnyH_done (by kernel_rfl) ?_ _
        refine ⟨rfl, ?_⟩
        have HX := Lib.hid (And.intro h1 (And.intro h2 (And.intro h3 h4)))
        clear h1 h2 h3 h4 hp
        go_wp2
        refine bodyPost_ret (results_none rfl _ _ _) rfl (HEND.out _ _ own4 F4 VW4 ([r] ++ [dfn c a]) (by rw [hl1.out, if_pos HIN.out]) (fun b hb => (HX.out.1 b (Nat.lt_of_lt_of_le hb HC9.out.size)).trans (HO8.out b hb)) (fun i hi => (HX.out.2.1 i hi).trans (HF8.out i hi)) (by rw [puts_end]; exact HX.out.2.2.1) (HC9.out.fresh HX.out.2.2.2 fun b hb h => by
          unfold TS at h ⊢
          rw [HO8.out b hb] at h
          exact h))
      · have hcb : (nds c a).contains r = false := by simpa using hin
        rw [hcb] at HCON
        have HIN := Lib.hid hin
        clear hin hcb
        go_wp2_with (go_at_call 63; (with_reducible refine (HCON.out).mono ?_); rintro e3 w3 ⟨rfl, hw3⟩; rw [hw3]; clear hw3 w3)
        refine bodyPost_ret (results_none rfl _ _ _) rfl (HEND.out _ _ own2 F2 VW2 [r] (by rw [hl1.out, if_neg HIN.out]; simp) HO8.out HF8.out HA8.out HC8.out)
    · have hl1 : Hid (comeL c tg M a r (boK x false) = [] ++ if r ∈ nds c a then [dfn c a] else []) := Lib.hid (by rw [HL.out, if_neg (fun h => ht h.2)])
      have ht : tg a = false := by simpa using ht
      rw [ht] at u1
      clear ht
      have HCON : Hid (Calls Tryd.prog 63 #[.slice pn (nds c a).length kn, .int .i64 r] V1 fun e w' => e = .returned (.bool ((nds c a).contains r)) ∧ w' = V1) := Lib.hid (contains_c (HVN6.out.ch HCV.out fun ad e => HNO.out ad e) hndl)
      by_cases hin : r ∈ nds c a
      · have hcb : (nds c a).contains r = true := by simpa using hin
        rw [hcb] at HCON
        have HIN := Lib.hid hin
        clear hin hcb
        have hg2l := HA6.out.fv.lt
        go_upto_region 9 with (go_at_call 63; (with_reducible refine (HCON.out).mono ?_); rintro e3 w3 ⟨rfl, hw3⟩; rw [hw3]; clear hw3 w3)
        have HC9 : Hid (Ch (TS own1) V1 V1.drew) := Lib.hid (HCV.out.stepB (below_drew1 _))
        have HA9 : Hid (TA B own1 V1.drew g kb lb n rw F KV LV VW Mn Lf Ld (puts a ([] : List Int) (PW, RW)).1 (puts a ([] : List Int) (PW, RW)).2) := Lib.hid (HA6.out.ch (S := fun _ => False) (Ch.of (below_drew1 _)) (fun _ _ => rfl) fun _ _ h => h)
        have HPB : Hid (Calls Tryd.prog 20 #[.pointer (some ⟨g, 6, none⟩), .int .i64 a, .int .i64 (dfn c a)] V1.drew (PutP B own1 V1.drew g 6 n rw F VW (puts a ([] : List Int) (PW, RW)).1 (puts a ([] : List Int) (PW, RW)).2 a (dfn c a))) := Lib.hid (put_c (Lib.hid HA9.out.fv) HA9.out.f7 (by omega) (Lib.hid HA9.out.qw) HA9.out.og ha hn (Nat.le_trans HB7.out HC9.out.size) (by have := puts_len a ([] : List Int) (PW, RW); simp only [List.length_cons, List.length_nil] at this; omega) (by have := puts_len a ([] : List Int) (PW, RW); simp only [List.length_cons, List.length_nil] at this; omega))
        have u3 := (HCV.out.cell (b := m5) bm HNM.out).trans u3
        have bm2 := Nat.lt_of_lt_of_le bm HCV.out.size
        have hnq : ¬ QS own1 g 6 m5 := fun h => HNM.out (by
          have h := QS.ts HA6.out.og h
          unfold TS at h ⊢
          rw [HO0 m5 bm] at h
          exact h)
        refine region_held1 (fun w' => Ch (QS own1 g 6) V1 w') (by kernel_rfl) ?_
        show wpAnyH _ _ _ _ _ 7 _ _ _
        have hS0 : Ch (QS own1 g 6) V1 V1.drew := Ch.of (below_drew1 _)
        refine takeH (i := 0) (v := .pointer (some ⟨g, 0, none⟩)) (some 91) rfl rfl (by kernel_rfl) (by kernel_rfl) (by kernel_rfl) (Or.inl ⟨by rfl, ?_⟩) hS0 ?_
        · intro y1 hS1
          go_simp
        simp only [Act.put, List.setIfInBounds_toArray, List.set_cons_zero, List.set_cons_succ]
        refine takeH (i := 1) (v := .pointer (some ⟨g, 0, none⟩)) (some 92) rfl rfl (by kernel_rfl) (by kernel_rfl) (by kernel_rfl) (Or.inl ⟨by rfl, ?_⟩) hS0 ?_
        · intro y1 hS1
          go_simp
        simp only [Act.put, List.setIfInBounds_toArray, List.set_cons_zero, List.set_cons_succ]
        refine takeH (i := 2) (v := .pointer (some ⟨g, 5 + 1, none⟩)) (some 93) rfl rfl (by kernel_rfl) (by kernel_rfl) (by kernel_rfl) (Or.inl ⟨by rfl, ?_⟩) hS0 ?_
        · intro y1 hS1
          go_simp
        simp only [Act.put, List.setIfInBounds_toArray, List.set_cons_zero, List.set_cons_succ]
        refine takeH (i := 3) (v := .int .i64 (a : Int)) (some 94) rfl rfl (by kernel_rfl) (by kernel_rfl) (by kernel_rfl) (Or.inl ⟨by rfl, ?_⟩) hS0 ?_
        · intro y1 hS1
          go_simp
        simp only [Act.put, List.setIfInBounds_toArray, List.set_cons_zero, List.set_cons_succ]
        refine takeH (i := 4) (v := .pointer (some ⟨m5, 3, none⟩)) (some 95) rfl rfl (by kernel_rfl) (by kernel_rfl) (by kernel_rfl) (Or.inl ⟨by rfl, ?_⟩) hS0 ?_
        · intro y1 hS1
          go_simp
        simp only [Act.put, List.setIfInBounds_toArray, List.set_cons_zero, List.set_cons_succ]
        refine takeH (i := 5) (v := .int .i64 (dfn c a)) (some 96) rfl rfl (by kernel_rfl) (by kernel_rfl) (by kernel_rfl) (Or.inl ⟨by rfl, ?_⟩) hS0 ?_
        · intro y1 hS1
          have u3 := (hS1.cell (b := m5) bm2 hnq).trans u3
          go_simp
        simp only [Act.put, List.setIfInBounds_toArray, List.set_cons_zero, List.set_cons_succ]
        refine wpAnyH_all (rs := [6]) (by kernel_rfl) (by simp) ?_
        intro i6 hi6
        obtain rfl : i6 = 6 := by simpa using hi6
        refine wpOp_call (some 97) rfl rfl (by rfl) (f := 20) (args := #[.pointer (some ⟨g, 6, none⟩), .int .i64 a, .int .i64 (dfn c a)]) (by go_simp) HPB.out ?_
        intro e4 w4 hp
        obtain ⟨v4, own4, F4, VW4, rfl, h1, h2, h3, h4⟩ := HA9.out.putW hp
        refine ⟨_, rfl, ?_, ?_⟩
        · obtain ⟨_, _, _, _, -, -, -, -, h5⟩ := hp
          exact hS0.trans (h5.mono fun z _ h => h)
        simp only [Act.put, List.setIfInBounds_toArray, List.set_cons_zero, List.set_cons_succ]
        refine wpAnyH_done (by kernel_rfl) ?_ _
        refine ⟨rfl, ?_⟩
        have HX := Lib.hid (And.intro h1 (And.intro h2 (And.intro h3 h4)))
        clear h1 h2 h3 h4 hp
        go_wp2
        refine bodyPost_ret (results_none rfl _ _ _) rfl (HEND.out _ _ own4 F4 VW4 (([] : List Int) ++ [dfn c a]) (by rw [hl1.out, if_pos HIN.out]) (fun b hb => (HX.out.1 b (Nat.lt_of_lt_of_le hb HC9.out.size)).trans (HO0 b hb)) (fun i hi => (HX.out.2.1 i hi).trans (HF0 i hi)) (by rw [puts_end]; exact HX.out.2.2.1) (HC9.out.fresh HX.out.2.2.2 fun b hb h => by
          unfold TS at h ⊢
          rw [HO0 b hb] at h
          exact h))
      · have hcb : (nds c a).contains r = false := by simpa using hin
        rw [hcb] at HCON
        have HIN := Lib.hid hin
        clear hin hcb
        go_wp2_with (go_at_call 63; (with_reducible refine (HCON.out).mono ?_); rintro e3 w3 ⟨rfl, hw3⟩; rw [hw3]; clear hw3 w3)
        refine bodyPost_ret (results_none rfl _ _ _) rfl (HEND.out _ _ own1 F VW ([] : List Int) (by rw [hl1.out, if_neg HIN.out]; simp) HO0 HF0 HA6.out HCV.out)
end Go.Proofs.YtgdhgipofaaogaaDoor
