/- Every row of words that ends with the end comes to something; what words of a text are like. -/
import Derived.Test.YtngfbpmabdmkeaaGreatDoorEx
namespace Go.Proofs.YtngfbpmabdmkeaaGreatDoor

theorem P.form {o : Nat} {j : Job} {ts : List Wd} {r : Res} (h : P o j ts r) (hm : j.may ts) (hF : Fin ts) (hl : j.lst = false) :
    (∃ x d ts', r = .ok x (d :: ts') ∧ Fin (d :: ts') ∧ (d :: ts').length + j.min ≤ ts.length) ∨ ∃ c a, r = .bad c a := by
  have hp := h.post' hm hF
  cases r with
  | ok x ts' =>
    obtain ⟨d, t2, rfl⟩ := hp.2.1.ne
    exact .inl ⟨x, d, t2, rfl, hp.2.1, hp.2.2⟩
  | okL x ts' => exact absurd hp.1 (by rw [hl]; decide)
  | bad c a => exact .inr ⟨c, a, rfl⟩
theorem P.formL {o : Nat} {j : Job} {ts : List Wd} {r : Res} (h : P o j ts r) (hm : j.may ts) (hF : Fin ts) (hl : j.lst = true) :
    (∃ xs d ts', r = .okL xs (d :: ts') ∧ Fin (d :: ts') ∧ (d :: ts').length + j.min ≤ ts.length) ∨ ∃ c a, r = .bad c a := by
  have hp := h.post' hm hF
  cases r with
  | okL x ts' =>
    obtain ⟨d, t2, rfl⟩ := hp.2.1.ne
    exact .inl ⟨x, d, t2, rfl, hp.2.1, hp.2.2⟩
  | ok x ts' => exact absurd hp.1 (by rw [hl]; decide)
  | bad c a => exact .inr ⟨c, a, rfl⟩

theorem P.total : ∀ (N o : Nat) (j : Job) (ts : List Wd), 4 * ts.length + j.wt < N → j.may ts → Fin ts → o ≤ 32 → ∃ r, P o j ts r := by
  intro N
  induction N with
  | zero => intro o j ts h; exact absurd h (by omega)
  | succ N ih =>
    intro o j ts hN hm hF ho
    obtain ⟨w, t, rfl⟩ := hF.ne
    simp only [List.length_cons] at hN
    cases j with
    | thing =>
      by_cases h1 : w.k = 1
      · exact ⟨_, .num h1⟩
      by_cases h0 : w.k = 0
      · by_cases hk : keyB w.t = true
        · by_cases ht : w.t = truB
          · exact ⟨_, .tru h0 ht⟩
          by_cases hf : w.t = flsB
          · exact ⟨_, .fls h0 hf⟩
          exact ⟨_, .stray ⟨h1, fun _ => ⟨hk, ht, hf⟩, fun h => by rw [h0] at h; cases h⟩⟩
        · obtain ⟨r, hr⟩ := ih o .nam (w :: t) (by simp [Job.wt] at hN ⊢; omega) (by rintro w' t' e; cases e; exact h0) hF ho
          exact ⟨r, .name h0 (by simpa using hk) hr⟩
      by_cases h2 : w.k = 2
      · have hm2 : ∀ w' t', w :: t = w' :: t' → w'.k = 2 := by rintro w' t' e; cases e; exact h2
        by_cases ha : w.t = [45]
        · obtain ⟨r, hr⟩ := ih o (.beh 4) (w :: t) (by simp [Job.wt] at hN ⊢; omega) hm2 hF ho
          exact ⟨r, .neg ⟨h2, ha⟩ hr⟩
        by_cases hb : w.t = [33]
        · obtain ⟨r, hr⟩ := ih o (.beh 5) (w :: t) (by simp [Job.wt] at hN ⊢; omega) hm2 hF ho
          exact ⟨r, .not ⟨h2, hb⟩ hr⟩
        by_cases hc : w.t = [40]
        · obtain ⟨r, hr⟩ := ih o (.wth [41]) (w :: t) (by simp [Job.wt] at hN ⊢; omega) hm2 hF ho
          exact ⟨r, .par ⟨h2, hc⟩ hr⟩
        exact ⟨_, .stray ⟨h1, fun h => absurd h h0, fun _ => ⟨ha, hb, hc⟩⟩⟩
      exact ⟨_, .stray ⟨h1, fun h => absurd h h0, fun h => absurd h h2⟩⟩
    | beh k =>
      have hF' : Fin t := hF.cons (by rw [hm w t rfl]; decide)
      by_cases hl : o = 32
      · exact ⟨_, .behLim hl⟩
      obtain ⟨r, hr⟩ := ih (o + 1) .thing t (by simp [Job.wt] at hN ⊢; omega) trivial hF' (by omega)
      rcases hr.form trivial hF' rfl with ⟨x, d, ts', rfl, -, -⟩ | ⟨c, a, rfl⟩
      · exact ⟨_, .behOk (by omega) hr⟩
      · exact ⟨_, .behBad (by omega) hr⟩
    | wth c =>
      have hF' : Fin t := hF.cons (by rw [hm w t rfl]; decide)
      by_cases hl : o = 32
      · exact ⟨_, .wthLim hl⟩
      obtain ⟨r, hr⟩ := ih (o + 1) (.expr 1) t (by simp [Job.wt] at hN ⊢; omega) (by simp [Job.may]) hF' (by omega)
      rcases hr.form (by simp [Job.may]) hF' rfl with ⟨x, d, ts', rfl, -, -⟩ | ⟨c, a, rfl⟩
      · by_cases hs : Sg d c
        · exact ⟨_, .wthOk (by omega) hr hs⟩
        · exact ⟨_, .wthNo (by omega) hr hs⟩
      · exact ⟨_, .wthBad (by omega) hr⟩
    | nam =>
      have hF' : Fin t := hF.cons (by rw [hm w t rfl]; decide)
      obtain ⟨c, ts, rfl⟩ := hF'.ne
      simp only [List.length_cons] at hN
      by_cases h1 : Sg c [91]
      · have hm2 : (Job.wth [93]).may (c :: ts) := by rintro w' t' e; cases e; exact h1.1
        obtain ⟨r, hr⟩ := ih o (.wth [93]) (c :: ts) (by simp [Job.wt] at hN ⊢; omega) hm2 hF' ho
        rcases hr.form hm2 hF' rfl with ⟨x, d, ts', rfl, -, -⟩ | ⟨c, a, rfl⟩
        · exact ⟨_, .namElem h1 hr⟩
        · exact ⟨_, .namElemBad h1 hr⟩
      by_cases h2 : Sg c [40]
      · have hm2 : Job.giv.may (c :: ts) := by rintro w' t' e; cases e; exact h2.1
        obtain ⟨r, hr⟩ := ih o .giv (c :: ts) (by simp [Job.wt] at hN ⊢; omega) hm2 hF' ho
        rcases hr.formL hm2 hF' rfl with ⟨x, d, ts', rfl, -, -⟩ | ⟨c, a, rfl⟩
        · exact ⟨_, .namCall h2 hr⟩
        · exact ⟨_, .namCallBad h2 hr⟩
      exact ⟨_, .namVar h1 h2⟩
    | giv =>
      have hF' : Fin t := hF.cons (by rw [hm w t rfl]; decide)
      obtain ⟨d, ts, rfl⟩ := hF'.ne
      simp only [List.length_cons] at hN
      by_cases hl : o = 32
      · exact ⟨_, .givLim hl⟩
      by_cases h1 : Sg d [41]
      · exact ⟨_, .givNone (by omega) h1⟩
      obtain ⟨r, hr⟩ := ih (o + 1) (.list []) (d :: ts) (by simp [Job.wt] at hN ⊢; omega) trivial hF' (by omega)
      rcases hr.formL trivial hF' rfl with ⟨x, f, ts', rfl, -, -⟩ | ⟨c, a, rfl⟩
      · by_cases hs : Sg f [41]
        · exact ⟨_, .givSome (by omega) h1 hr hs⟩
        · exact ⟨_, .givNo (by omega) h1 hr hs⟩
      · exact ⟨_, .givBad (by omega) h1 hr⟩
    | expr r =>
      obtain ⟨r1, hr⟩ := ih o .thing (w :: t) (by simp [Job.wt] at hN ⊢; omega) trivial hF ho
      rcases hr.form trivial hF rfl with ⟨x, d, ts', rfl, hF2, hL⟩ | ⟨c, a, rfl⟩
      · simp [Job.min] at hL
        obtain ⟨r2, hr2⟩ := ih o (.loop r x) (d :: ts') (by simp [Job.wt] at hN ⊢; omega) hm hF2 ho
        exact ⟨_, .expr hr hr2⟩
      · exact ⟨_, .exprBad hr⟩
    | loop r l =>
      by_cases hc : rkW w < r
      · exact ⟨_, .loopEnd hc⟩
      have hb := rkW_bd w
      have h1 : 1 ≤ r := hm.1
      have hF' : Fin t := hF.cons (by rw [(rkW_ne (w := w) (by omega)).1]; decide)
      have hm2 : (Job.expr (rkW w + 1)).may t := ⟨by omega, by omega⟩
      obtain ⟨r1, hr⟩ := ih o (.expr (rkW w + 1)) t (by simp [Job.wt] at hN ⊢; omega) hm2 hF' ho
      rcases hr.form hm2 hF' rfl with ⟨x, d, ts', rfl, hF2, hL⟩ | ⟨c, a, rfl⟩
      · simp [Job.min] at hL
        obtain ⟨r2, hr2⟩ := ih o (.loop r (.mk 6 (opB w.t) 0 [] [l, x] l.a)) (d :: ts') (by simp [Job.wt] at hN ⊢; omega) hm hF2 ho
        exact ⟨_, .loopMore (by omega) hr hr2⟩
      · exact ⟨_, .loopBad (by omega) hr⟩
    | list acc =>
      have hm2 : (Job.expr 1).may (w :: t) := by simp [Job.may]
      obtain ⟨r1, hr⟩ := ih o (.expr 1) (w :: t) (by simp [Job.wt] at hN ⊢; omega) hm2 hF ho
      rcases hr.form hm2 hF rfl with ⟨x, d, ts', rfl, hF2, hL⟩ | ⟨c, a, rfl⟩
      · by_cases hs : Sg d [44]
        · simp [Job.min] at hL
          have hF3 := hF2.cons hs.ne
          obtain ⟨r2, hr2⟩ := ih o (.list (acc ++ [x])) ts' (by simp [Job.wt] at hN ⊢; omega) trivial hF3 ho
          exact ⟨_, .lstMore hr hs hr2⟩
        · exact ⟨_, .lstEnd hr hs⟩
      · exact ⟨_, .lstBad hr⟩

/-- A text's words end with the end, and no word is longer than the text. -/
theorem Sc.fin {num : List UInt8 → Option Int} {l : List UInt8} {a : Nat} {ws : List Wd} {r : Option (Int × Nat)} (h : Sc num l a ws r) (hr : r = none) : Fin ws := by
  induction h with
  | done a => exact ⟨[], _, rfl, rfl⟩
  | bad => cases hr
  | gap _ _ _ _ _ _ _ _ ih => exact ih hr
  | word l a n k v ws r _ _ _ ih =>
    obtain ⟨pre, e, h1, h2⟩ := ih hr
    exact ⟨_ :: pre, e, by rw [h1]; rfl, h2⟩
theorem Sc.short {num : List UInt8 → Option Int} {l : List UInt8} {a : Nat} {ws : List Wd} {r : Option (Int × Nat)} (h : Sc num l a ws r) : ∀ x ∈ ws, x.t.length ≤ l.length := by
  induction h with
  | done a => intro x hx; simp at hx; subst hx; simp
  | bad => intro x hx; simp at hx
  | gap l a n ws r _ _ _ ih =>
    intro x hx
    have := ih x hx
    simp at this
    omega
  | word l a n k v ws r _ _ _ ih =>
    intro x hx
    rcases List.mem_cons.1 hx with rfl | hx
    · show (l.take n).length ≤ _
      simp
      omega
    · have := ih x hx
      simp at this
      omega

/-- What expr.Of says of a text. -/
inductive Out where
  | ok (e : Ex)
  | bad (c : Int) (a : Nat)
inductive OfR (l : List UInt8) : Out → Prop
  | lex {ws : List Wd} {c : Int} {a : Nat} : Sc numO l 0 ws (some (c, a)) → OfR l (.bad c a)
  | bad {ws : List Wd} {c : Int} {a : Nat} : Sc numO l 0 ws none → P 0 (.expr 1) ws (.bad c a) → OfR l (.bad c a)
  | stray {ws ts : List Wd} {d : Wd} {e : Ex} : Sc numO l 0 ws none → P 0 (.expr 1) ws (.ok e (d :: ts)) → d.k ≠ 3 → OfR l (.bad 11 d.a)
  | ok {ws ts : List Wd} {d : Wd} {e : Ex} : Sc numO l 0 ws none → P 0 (.expr 1) ws (.ok e (d :: ts)) → d.k = 3 → OfR l (.ok e)
theorem OfR.total (l : List UInt8) : ∃ r, OfR l r := by
  obtain ⟨ws, r, h⟩ := Sc.total numO l.length l 0 (Nat.le_refl _)
  cases r with
  | some q => exact ⟨_, .lex (c := q.1) (a := q.2) h⟩
  | none =>
    have hF := h.fin rfl
    obtain ⟨r, hr⟩ := P.total (4 * ws.length + 3) 0 (.expr 1) ws (by simp [Job.wt]) (by simp [Job.may]) hF (by omega)
    rcases hr.form (by simp [Job.may]) hF rfl with ⟨x, d, ts', rfl, -, -⟩ | ⟨c, a, rfl⟩
    · by_cases hd : d.k = 3
      · exact ⟨_, .ok h hr hd⟩
      · exact ⟨_, .stray h hr hd⟩
    · exact ⟨_, .bad h hr⟩
end Go.Proofs.YtngfbpmabdmkeaaGreatDoor
