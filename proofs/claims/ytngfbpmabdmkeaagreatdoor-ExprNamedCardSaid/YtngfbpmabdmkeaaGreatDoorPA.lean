/- What is parsed can be shown, and is parsed again: plain mathematics. -/
import Derived.Test.YtngfbpmabdmkeaaGreatDoorTxt
import Derived.Test.YtngfbpmabdmkeaaGreatDoorTokAt
namespace Go.Proofs.YtngfbpmabdmkeaaGreatDoor
open Go

def NameB (t : List UInt8) : Prop := ∃ c r, t = c :: r ∧ isLetter c = true ∧ (∀ d ∈ r, isPart d = true) ∧ t.length ≤ 24 ∧ keyB t = false
/-- What a text's words are like. -/
def WdOk (w : Wd) : Prop := (w.k = 0 → keyB w.t = false → NameB w.t) ∧ (w.k = 1 → 0 ≤ w.n ∧ w.n ≤ 9223372036854775807 ∧ w.t = Lib.itoa w.n) ∧ (w.k ≠ 3 → 1 ≤ w.t.length)

theorem rank_pos : ∀ j : Nat, j < 19 → j ≠ 16 → 1 ≤ rnkZ (j : Int) := by decide

/-- 'Fit o r x': where o are open, x can be shown beside an operator of rank r. -/
inductive Fit : Nat → Int → Ex → Prop
  | num {o : Nat} {r n : Int} {a : Nat} : 0 ≤ n → n ≤ 9223372036854775807 → Fit o r (.mk 0 0 n [] [] a)
  | tru {o : Nat} {r : Int} {a : Nat} : Fit o r (.mk 1 0 1 [] [] a)
  | fls {o : Nat} {r : Int} {a : Nat} : Fit o r (.mk 1 0 0 [] [] a)
  | var {o : Nat} {r : Int} {nm : List UInt8} {a : Nat} : NameB nm → Fit o r (.mk 2 0 0 nm [] a)
  | elem {o : Nat} {r : Int} {nm : List UInt8} {e : Ex} {a : Nat} : NameB nm → o < 32 → Fit (o + 1) 1 e → Fit o r (.mk 3 0 0 nm [e] a)
  | neg {o : Nat} {r : Int} {e : Ex} {a : Nat} : o < 32 → Fit (o + 1) 11 e → Fit o r (.mk 4 0 0 [] [e] a)
  | not {o : Nat} {r : Int} {e : Ex} {a : Nat} : o < 32 → Fit (o + 1) 11 e → Fit o r (.mk 5 0 0 [] [e] a)
  | two {o j : Nat} {r : Int} {l e : Ex} {a : Nat} : j < 19 → j ≠ 16 → r ≤ rnkZ j → Fit o (rnkZ j) l → Fit o (rnkZ j + 1) e → Fit o r (.mk 6 j 0 [] [l, e] a)
  | brk {o j : Nat} {r : Int} {l e : Ex} {a : Nat} : 1 ≤ rnkZ j → rnkZ j < r → o < 32 → Fit (o + 1) 1 (.mk 6 j 0 [] [l, e] a) → Fit o r (.mk 6 j 0 [] [l, e] a)
  | call {o : Nat} {r : Int} {nm : List UInt8} {es : List Ex} {a : Nat} : NameB nm → o < 32 → (∀ e, e ∈ es → Fit (o + 1) 1 e) → Fit o r (.mk 7 0 0 nm es a)

theorem Fit.mono {o : Nat} {r : Int} {x : Ex} (h : Fit o r x) : ∀ {o' : Nat} {r' : Int}, o' ≤ o → r' ≤ r → Fit o' r' x := by
  induction h with
  | num h1 h2 => intros; exact .num h1 h2
  | tru => intros; exact .tru
  | fls => intros; exact .fls
  | var h => intros; exact .var h
  | elem h1 h2 _ ih => intro o' r' ho _; exact .elem h1 (by omega) (ih (by omega) (Int.le_refl _))
  | neg h2 _ ih => intro o' r' ho _; exact .neg (by omega) (ih (by omega) (Int.le_refl _))
  | not h2 _ ih => intro o' r' ho _; exact .not (by omega) (ih (by omega) (Int.le_refl _))
  | two h1 h2 h3 _ _ ih1 ih2 => intro o' r' ho hr; exact .two h1 h2 (by omega) (ih1 ho (Int.le_refl _)) (ih2 ho (Int.le_refl _))
  | @brk o j r l e a h1 h2 h3 _ ih =>
    intro o' r' ho hr
    by_cases hj : r' ≤ rnkZ j
    · cases ih (o' := o') (r' := 1) (by omega) (Int.le_refl _) with
      | two k1 k2 k3 k4 k5 => exact .two k1 k2 hj k4 k5
      | brk k1 k2 => omega
    · exact .brk h1 (by omega) (by omega) (ih (by omega) (Int.le_refl _))
  | call h1 h2 _ ih => intro o' r' ho _; exact .call h1 (by omega) fun e he => ih e he (by omega) (Int.le_refl _)
/-- In brackets. -/
theorem Fit.up {o : Nat} {x : Ex} (h : Fit (o + 1) 1 x) (ho : o < 32) : Fit o 11 x := by
  cases h with
  | num h1 h2 => exact .num h1 h2
  | tru => exact .tru
  | fls => exact .fls
  | var h => exact .var h
  | elem h1 h2 h3 => exact .elem h1 ho (h3.mono (by omega) (Int.le_refl _))
  | neg h2 h3 => exact .neg ho (h3.mono (by omega) (Int.le_refl _))
  | not h2 h3 => exact .not ho (h3.mono (by omega) (Int.le_refl _))
  | @two _ j _ l e a h1 h2 h3 h4 h5 =>
    have := (rnkZ_le j).2
    exact .brk (rank_pos j h1 h2) (by omega) ho (.two h1 h2 h3 h4 h5)
  | brk h1 h2 => omega
  | call h1 h2 h3 => exact .call h1 ho fun e he => (h3 e he).mono (by omega) (Int.le_refl _)

/-- What is parsed can be shown where it stands. -/
def FitPost (o : Nat) : Job → List Wd → Res → Prop
  | .thing, _, .ok e _ => Fit o 11 e
  | .beh k, _, .ok e _ => k = 4 ∨ k = 5 → Fit o 11 e
  | .wth _, _, .ok e _ => o < 32 ∧ Fit (o + 1) 1 e
  | .nam, ts, .ok e _ => (∀ w t, ts = w :: t → NameB w.t) → Fit o 11 e
  | .giv, _, .okL es _ => o < 32 ∧ ∀ e, e ∈ es → Fit (o + 1) 1 e
  | .expr r, _, .ok e ts' => 1 ≤ r → r ≤ 11 → Fit o r e ∧ ∀ c t, ts' = c :: t → rkW c < r
  | .loop r l, ts, .ok e ts' => 1 ≤ r → r ≤ 11 → (∀ c t, ts = c :: t → ∃ q, r ≤ q ∧ rkW c ≤ q ∧ Fit o q l) → Fit o r e ∧ ∀ c t, ts' = c :: t → rkW c < r
  | .list acc, _, .okL es _ => (∀ e, e ∈ acc → Fit o 1 e) → ∀ e, e ∈ es → Fit o 1 e
  | _, _, _ => True

theorem suf_all {p : Wd → Prop} {a b : List Wd} (h : a <:+ b) (hb : ∀ w ∈ b, p w) : ∀ w ∈ a, p w := fun w hw => hb w (h.subset hw)

theorem P.fit {o : Nat} {j : Job} {ts : List Wd} {r : Res} (h : P o j ts r) : (∀ w ∈ ts, WdOk w) → FitPost o j ts r := by
  induction h with
  | @num o w ts hk =>
    intro hw
    have := (hw w (by simp)).2.1 hk
    exact .num this.1 this.2.1
  | tru => intro _; exact .tru
  | fls => intro _; exact .fls
  | @neg o w ts r hs h ih =>
    intro hw
    have := ih hw
    cases r with
    | ok e t => exact this (.inl rfl)
    | okL | bad => trivial
  | @not o w ts r hs h ih =>
    intro hw
    have := ih hw
    cases r with
    | ok e t => exact this (.inr rfl)
    | okL | bad => trivial
  | @par o w ts r hs h ih =>
    intro hw
    have := ih hw
    cases r with
    | ok e t => exact this.2.up this.1
    | okL | bad => trivial
  | @name o w ts r hs hk h ih =>
    intro hw
    have := ih hw
    cases r with
    | ok e t => exact this (by rintro w' t' e; cases e; exact (hw w (by simp)).1 hs hk)
    | okL | bad => trivial
  | stray | behLim | behBad | wthLim | wthNo | wthBad | namElemBad | namCallBad | givLim | givNo | givBad | lstBad | exprBad | loopBad => intro _; trivial
  | behOk ho h ih =>
    intro hw
    have := ih fun w h => hw w (List.mem_cons_of_mem _ h)
    rintro (rfl | rfl)
    · exact .neg ho this
    · exact .not ho this
  | wthOk ho h hd ih =>
    intro hw
    exact ⟨ho, (ih (fun w h => hw w (List.mem_cons_of_mem _ h)) (Int.le_refl _) (by decide)).1⟩
  | namVar h1 h2 => intro _ hn; exact .var (hn _ _ rfl)
  | namElem hs h ih =>
    intro hw hn
    have := ih fun w h => hw w (List.mem_cons_of_mem _ h)
    exact .elem (hn _ _ rfl) this.1 this.2
  | namCall hs h ih =>
    intro hw hn
    have := ih fun w h => hw w (List.mem_cons_of_mem _ h)
    exact .call (hn _ _ rfl) this.1 this.2
  | givNone ho hd => intro _; exact ⟨ho, by simp⟩
  | givSome ho hd h hf ih =>
    intro hw
    exact ⟨ho, ih (fun w h => hw w (List.mem_cons_of_mem _ h)) (by simp)⟩
  | @lstMore o d ts ts' acc e r h hd h2 ih ih2 =>
    intro hw
    have h1 := (ih hw (Int.le_refl _) (by decide)).1
    have h3 := ih2 (suf_all ((List.suffix_cons _ _).trans h.suf) hw)
    cases r with
    | ok | bad => trivial
    | okL es t =>
      intro ha
      exact h3 fun x hx => by
        rcases List.mem_append.1 hx with hx | hx
        · exact ha x hx
        · simp at hx; subst hx; exact h1
  | lstEnd h hd ih =>
    intro hw ha x hx
    rcases List.mem_append.1 hx with hx | hx
    · exact ha x hx
    · simp at hx; subst hx; exact (ih hw (Int.le_refl _) (by decide)).1
  | @expr o r ts ts' l res h h2 ih ih2 =>
    intro hw
    have h1 := ih hw
    have h3 := ih2 (suf_all h.suf hw)
    cases res with
    | ok e t => exact fun k1 k2 => h3 k1 k2 fun c t _ => ⟨11, k2, by have := (rkW_bd c).2; omega, h1⟩
    | okL | bad => trivial
  | @loopEnd o r l c ts hr =>
    intro _ k1 k2 hl
    obtain ⟨q, q1, q2, q3⟩ := hl c ts rfl
    exact ⟨q3.mono (Nat.le_refl _) q1, by rintro c' t' e; cases e; exact hr⟩
  | @loopMore o r l e c ts ts' res hr h h2 ih ih2 =>
    intro hw
    have h1 := ih fun w h => hw w (List.mem_cons_of_mem _ h)
    have h3 := ih2 (suf_all h.suf fun w h => hw w (List.mem_cons_of_mem _ h))
    cases res with
    | okL | bad => trivial
    | ok x t =>
      intro k1 k2 hl
      obtain ⟨q, q1, q2, q3⟩ := hl c ts rfl
      have hb := rkW_bd c
      have hc := rkW_ne (w := c) (by omega)
      obtain ⟨j, j1, j2, j3, -⟩ := op_rank hc.2
      have hj : rkW c = rnkZ j := by rw [← j3]; unfold rkW; rw [if_pos hc.1]
      obtain ⟨g1, g2⟩ := h1 (by omega) (by omega)
      refine h3 k1 k2 fun c2 t2 e2 => ⟨rkW c, hr, by have := g2 c2 t2 e2; omega, ?_⟩
      rw [j3, hj]
      rw [hj] at g1 q2
      exact .two j1 j2 (Int.le_refl _) (q3.mono (Nat.le_refl _) q2) g1
end Go.Proofs.YtngfbpmabdmkeaaGreatDoor
namespace Go.Proofs.YtngfbpmabdmkeaaGreatDoor
open Go

/-- How long all words are. -/
def lens : List Wd → Nat
  | [] => 0
  | w :: r => w.t.length + lens r
def Ex.wt (x : Ex) : Nat := x.txt.length + if x.k = 6 then 2 else 0
def wtL : List Ex → Nat
  | [] => 0
  | x :: r => x.wt + 2 + wtL r
theorem wtL_append : ∀ l m : List Ex, wtL (l ++ m) = wtL l + wtL m
  | [], m => by simp [wtL]
  | x :: r, m => by simp only [List.cons_append, wtL, wtL_append r m]; omega
theorem cntL_append : ∀ l m : List Ex, Ex.cntL (l ++ m) = Ex.cntL l + Ex.cntL m
  | [], m => by simp [Ex.cntL]
  | x :: r, m => by simp only [List.cons_append, Ex.cntL, cntL_append r m]; omega
theorem txtAt_le (x : Ex) (r : Int) : (x.txtAt r).length ≤ x.wt := by
  unfold Ex.wt Ex.txtAt partT
  by_cases h : x.k = 6
  · rw [if_pos h]
    split
    · simp
    · omega
  · have : (x.k == 6) = false := by simpa using h
    rw [this, if_neg h]
    simp
theorem wt_not {x : Ex} (h : x.k ≠ 6) : x.wt = x.txt.length := by unfold Ex.wt; rw [if_neg h]; rfl
theorem rest_le : ∀ ks : List Ex, ((Ex.kds ks).flatMap fun y => 44 :: 32 :: y.2.2).length ≤ wtL ks
  | [] => by simp [Ex.kds, wtL]
  | x :: r => by
    have := rest_le r
    have h2 : x.txt.length ≤ x.wt := by unfold Ex.wt; omega
    simp only [Ex.kds, List.flatMap_cons, List.length_append, List.length_cons, wtL]
    omega
theorem row_le (ks : List Ex) : (rowK (Ex.kds ks)).length ≤ wtL ks := by
  cases ks with
  | nil => simp [Ex.kds, rowK, wtL]
  | cons x r =>
    have := rest_le r
    have h2 : x.txt.length ≤ x.wt := by unfold Ex.wt; omega
    simp only [Ex.kds, rowK, List.length_append, wtL]
    omega

/-- What is parsed is no longer than so much, and made of no more things than words. -/
def WtPost : Job → List Wd → Res → Prop
  | .thing, ts, .ok e ts' => e.wt + 5 * lens ts' ≤ 5 * lens ts ∧ e.cnt + ts'.length ≤ ts.length
  | .wth _, ts, .ok e ts' => e.wt + 5 * lens ts' ≤ 5 * lens ts ∧ e.cnt + ts'.length ≤ ts.length
  | .beh k, ts, .ok e ts' => k = 4 ∨ k = 5 → (∀ w t, ts = w :: t → 1 ≤ w.t.length) → e.wt + 5 * lens ts' ≤ 5 * lens ts ∧ e.cnt + ts'.length ≤ ts.length
  | .nam, ts, .ok e ts' => (∀ w t, ts = w :: t → 1 ≤ w.t.length) → e.wt + 5 * lens ts' ≤ 5 * lens ts ∧ e.cnt + ts'.length ≤ ts.length
  | .expr r, ts, .ok e ts' => 1 ≤ r → e.wt + 5 * lens ts' ≤ 5 * lens ts ∧ e.cnt + ts'.length ≤ ts.length
  | .loop r l, ts, .ok e ts' => 1 ≤ r → e.wt + 5 * lens ts' ≤ 5 * lens ts + l.wt ∧ e.cnt + ts'.length ≤ ts.length + l.cnt
  | .giv, ts, .okL es ts' => wtL es + 5 * lens ts' ≤ 5 * lens ts + 2 ∧ Ex.cntL es + ts'.length + 1 ≤ ts.length
  | .list acc, ts, .okL es ts' => wtL es + 5 * lens ts' ≤ 5 * lens ts + wtL acc + 2 ∧ Ex.cntL es + ts'.length ≤ ts.length + Ex.cntL acc
  | _, _, _ => True

theorem sgnZ_nat {j : Nat} (h : j < 19) : (sgnZ (j : Int)).data.toList = sgB j := by
  unfold sgnZ sgB
  rw [if_pos (by omega)]
  simp
theorem lens_suf : ∀ {a b : List Wd}, a <:+ b → lens a ≤ lens b := by
  rintro a b ⟨p, rfl⟩
  induction p with
  | nil => exact Nat.le_refl _
  | cons x p ih => simp only [List.cons_append, lens]; omega

theorem P.wt {o : Nat} {j : Job} {ts : List Wd} {r : Res} (h : P o j ts r) : (∀ w ∈ ts, WdOk w) → WtPost j ts r := by
  induction h with
  | @num o w ts hk =>
    intro hw
    have := (hw w (by simp)).2.1 hk
    refine ⟨?_, by simp [Ex.cnt, Ex.cntL]; omega⟩
    rw [wt_not (by simp [Ex.k]), txt_num, ← this.2.2]
    simp only [lens]
    omega
  | @tru o w ts hk ht =>
    intro _
    refine ⟨?_, by simp [Ex.cnt, Ex.cntL]; omega⟩
    rw [wt_not (by simp [Ex.k]), txt_truth]
    simp only [lens, ht]
    simp [truB]
    omega
  | @fls o w ts hk ht =>
    intro _
    refine ⟨?_, by simp [Ex.cnt, Ex.cntL]; omega⟩
    rw [wt_not (by simp [Ex.k]), txt_truth]
    simp only [lens, ht]
    simp [flsB]
    omega
  | @neg o w ts r hs h ih =>
    intro hw
    have := ih hw
    cases r with
    | ok e t => exact this (.inl rfl) (by rintro w' t' e; cases e; rw [hs.2]; decide)
    | okL | bad => trivial
  | @not o w ts r hs h ih =>
    intro hw
    have := ih hw
    cases r with
    | ok e t => exact this (.inr rfl) (by rintro w' t' e; cases e; rw [hs.2]; decide)
    | okL | bad => trivial
  | @par o w ts r hs h ih =>
    intro hw
    have := ih hw
    cases r with
    | ok e t => exact this
    | okL | bad => trivial
  | @name o w ts r hs hk h ih =>
    intro hw
    have := ih hw
    cases r with
    | ok e t => exact this (by rintro w' t' e; cases e; exact (hw w (by simp)).2.2 (by rw [hs]; decide))
    | okL | bad => trivial
  | stray | behLim | behBad | wthLim | wthNo | wthBad | namElemBad | namCallBad | givLim | givNo | givBad | lstBad | exprBad | loopBad => intro _; trivial
  | @behOk o k w ts ts' e ho h ih =>
    intro hw hk hl
    have h1 := ih fun w h => hw w (List.mem_cons_of_mem _ h)
    have h2 := hl _ _ rfl
    have h3 := txtAt_le e 11
    refine ⟨?_, ?_⟩
    · have : (Ex.mk k 0 0 [] [e] w.a).wt = 1 + (e.txtAt 11).length := by
        rcases hk with rfl | rfl
        · rw [wt_not (by simp [Ex.k]), txt_neg, List.length_cons]; omega
        · rw [wt_not (by simp [Ex.k]), txt_not, List.length_cons]; omega
      rw [this]
      have := h1.1
      simp only [lens]
      omega
    · have := h1.2
      simp only [Ex.cnt, Ex.cntL, List.length_cons]
      omega
  | @wthOk o c w d ts ts' e ho h hd ih =>
    intro hw
    have h1 := ih (fun w h => hw w (List.mem_cons_of_mem _ h)) (Int.le_refl _)
    simp only [WtPost, lens, List.length_cons] at h1 ⊢
    omega
  | @namVar o w c ts h1 h2 =>
    intro _ hn
    have := hn _ _ rfl
    refine ⟨?_, by simp [Ex.cnt, Ex.cntL]; omega⟩
    rw [wt_not (by simp [Ex.k]), txt_var]
    simp only [lens]
    omega
  | @namElem o w c ts ts' e hs h ih =>
    intro hw hn
    have h1 := ih fun w h => hw w (List.mem_cons_of_mem _ h)
    have h2 := hn _ _ rfl
    refine ⟨?_, ?_⟩
    · have h3 : e.txt.length ≤ e.wt := by unfold Ex.wt; omega
      have := h1.1
      rw [wt_not (by simp [Ex.k]), txt_elem]
      simp only [lens, List.length_append, List.length_cons, List.length_nil] at this ⊢
      omega
    · have := h1.2
      simp only [Ex.cnt, Ex.cntL, List.length_cons] at this ⊢
      omega
  | @namCall o w c ts ts' es hs h ih =>
    intro hw hn
    have h1 := ih fun w h => hw w (List.mem_cons_of_mem _ h)
    have h2 := hn _ _ rfl
    refine ⟨?_, ?_⟩
    · have h3 := row_le es
      have := h1.1
      rw [wt_not (by simp [Ex.k]), txt_call]
      simp only [lens, List.length_append, List.length_cons, List.length_nil] at this ⊢
      omega
    · have := h1.2
      simp only [Ex.cnt, List.length_cons] at this ⊢
      omega
  | @givNone o w d ts ho hd =>
    intro _
    simp only [WtPost, wtL, Ex.cntL, lens, List.length_cons]
    omega
  | @givSome o w d f ts ts' es ho hd h hf ih =>
    intro hw
    have h1 := ih fun w h => hw w (List.mem_cons_of_mem _ h)
    simp only [WtPost, wtL, Ex.cntL, lens, List.length_cons] at h1 ⊢
    omega
  | @lstMore o d ts ts' acc e r h hd h2 ih ih2 =>
    intro hw
    have h1 := ih hw (Int.le_refl _)
    have h3 := ih2 (suf_all ((List.suffix_cons _ _).trans h.suf) hw)
    cases r with
    | ok | bad => trivial
    | okL es t =>
      have hl : d.t.length = 1 := by rw [hd.2]; rfl
      simp only [WtPost, wtL, wtL_append, cntL_append, Ex.cntL, lens, List.length_cons] at h1 h3 ⊢
      omega
  | @lstEnd o d ts ts' acc e h hd ih =>
    intro hw
    have h1 := ih hw (Int.le_refl _)
    simp only [WtPost, wtL, wtL_append, cntL_append, Ex.cntL, lens, List.length_cons] at h1 ⊢
    omega
  | @expr o r ts ts' l res h h2 ih ih2 =>
    intro hw
    have h1 := ih hw
    have h3 := ih2 (suf_all h.suf hw)
    cases res with
    | ok e t =>
      intro hr
      have h4 := h3 hr
      simp only [WtPost] at h1
      omega
    | okL | bad => trivial
  | @loopEnd o r l c ts hr =>
    intro _ _
    omega
  | @loopMore o r l e c ts ts' res hr h h2 ih ih2 =>
    intro hw
    have h1 := ih fun w h => hw w (List.mem_cons_of_mem _ h)
    have h3 := ih2 (suf_all h.suf fun w h => hw w (List.mem_cons_of_mem _ h))
    cases res with
    | okL | bad => trivial
    | ok x t =>
      intro h1r
      have h4 := h3 h1r
      have h1 := h1 (by omega)
      have hc : 1 ≤ rkW c := by omega
      obtain ⟨j, j1, -, j3, j4⟩ := op_rank (rkW_ne hc).2
      have hlc := (hw c (by simp)).2.2 (by rw [(rkW_ne hc).1]; decide)
      have hop : (Ex.mk 6 (opB c.t) 0 [] [l, e] l.a).wt ≤ l.wt + e.wt + 5 * c.t.length := by
        have e1 := txtAt_le l (rnkZ (opB c.t))
        have e2 := txtAt_le e (rnkZ (opB c.t) + 1)
        have e3 : (opT (opB c.t)).length = c.t.length + 2 := by
          unfold opT
          rw [j3, sgnZ_nat j1, j4]
          simp
        unfold Ex.wt at e1 e2 ⊢
        rw [txt_two, if_pos (show (Ex.mk 6 (opB c.t) 0 [] [l, e] l.a).k = 6 from rfl)]
        simp only [List.length_append, e3]
        omega
      have h5 : (Ex.mk 6 (opB c.t) 0 [] [l, e] l.a).cnt = 1 + l.cnt + e.cnt := by simp only [Ex.cnt, Ex.cntL]; omega
      simp only [lens, List.length_cons] at h1 h4 ⊢
      omega

/-- The names in an expression, in the order in which they come; those in words. -/
def nmW (ts : List Wd) : List (List UInt8) := (ts.filter fun w => (w.k == 0) && !keyB w.t).map (·.t)
mutual
def Ex.nms : Ex → List (List UInt8)
  | .mk k _ _ nm ks _ => (if k = 2 ∨ k = 3 ∨ k = 7 then [nm] else []) ++ Ex.nmsL ks
def Ex.nmsL : List Ex → List (List UInt8)
  | [] => []
  | x :: r => Ex.nms x ++ Ex.nmsL r
end
theorem nmsL_append : ∀ l m : List Ex, Ex.nmsL (l ++ m) = Ex.nmsL l ++ Ex.nmsL m
  | [], m => by simp [Ex.nmsL]
  | x :: r, m => by simp only [List.cons_append, Ex.nmsL, nmsL_append r m, List.append_assoc]
theorem nmW_not {w : Wd} (h : w.k ≠ 0) (ts : List Wd) : nmW (w :: ts) = nmW ts := by
  have : (w.k == 0) = false := by simpa using h
  simp [nmW, this]
theorem nmW_key {w : Wd} (h : keyB w.t = true) (ts : List Wd) : nmW (w :: ts) = nmW ts := by simp [nmW, h]
theorem nmW_name {w : Wd} (h : w.k = 0) (h2 : keyB w.t = false) (ts : List Wd) : nmW (w :: ts) = w.t :: nmW ts := by simp [nmW, h, h2]
theorem Sg.ne0 {w : Wd} {t : List UInt8} (h : Sg w t) : w.k ≠ 0 := by rw [h.1]; decide

/-- The names of what is parsed are those of its words. -/
def NmPost : Job → List Wd → Res → Prop
  | .thing, ts, .ok e ts' => nmW ts = e.nms ++ nmW ts'
  | .wth _, ts, .ok e ts' => (∀ w t, ts = w :: t → w.k ≠ 0) → nmW ts = e.nms ++ nmW ts'
  | .beh k, ts, .ok e ts' => k = 4 ∨ k = 5 → (∀ w t, ts = w :: t → w.k ≠ 0) → nmW ts = e.nms ++ nmW ts'
  | .nam, ts, .ok e ts' => (∀ w t, ts = w :: t → w.k = 0 ∧ keyB w.t = false) → nmW ts = e.nms ++ nmW ts'
  | .expr r, ts, .ok e ts' => 1 ≤ r → nmW ts = e.nms ++ nmW ts'
  | .loop r l, ts, .ok e ts' => 1 ≤ r → l.nms ++ nmW ts = e.nms ++ nmW ts'
  | .giv, ts, .okL es ts' => (∀ w t, ts = w :: t → w.k ≠ 0) → nmW ts = Ex.nmsL es ++ nmW ts'
  | .list acc, ts, .okL es ts' => Ex.nmsL acc ++ nmW ts = Ex.nmsL es ++ nmW ts'
  | _, _, _ => True

theorem P.nm {o : Nat} {j : Job} {ts : List Wd} {r : Res} (h : P o j ts r) : NmPost j ts r := by
  induction h with
  | @num o w ts hk => exact (nmW_not (by rw [hk]; decide) ts).trans rfl
  | @tru o w ts hk ht => exact (nmW_key (by rw [ht]; decide) ts).trans rfl
  | @fls o w ts hk ht => exact (nmW_key (by rw [ht]; decide) ts).trans rfl
  | @neg o w ts r hs h ih =>
    cases r with
    | ok e t => exact ih (.inl rfl) (by rintro w' t' e; cases e; exact hs.ne0)
    | okL | bad => trivial
  | @not o w ts r hs h ih =>
    cases r with
    | ok e t => exact ih (.inr rfl) (by rintro w' t' e; cases e; exact hs.ne0)
    | okL | bad => trivial
  | @par o w ts r hs h ih =>
    cases r with
    | ok e t => exact ih (by rintro w' t' e; cases e; exact hs.ne0)
    | okL | bad => trivial
  | @name o w ts r hs hk h ih =>
    cases r with
    | ok e t => exact ih (by rintro w' t' e; cases e; exact ⟨hs, hk⟩)
    | okL | bad => trivial
  | stray | behLim | behBad | wthLim | wthNo | wthBad | namElemBad | namCallBad | givLim | givNo | givBad | lstBad | exprBad | loopBad => trivial
  | @behOk o k w ts ts' e ho h ih =>
    intro hk hn
    rw [nmW_not (hn _ _ rfl)]
    have : (Ex.mk k 0 0 [] [e] w.a).nms = e.nms := by
      simp only [Ex.nms, Ex.nmsL]
      rw [if_neg (by omega)]
      simp
    rw [this]
    exact ih
  | @wthOk o c w d ts ts' e ho h hd ih =>
    intro hn
    rw [nmW_not (hn _ _ rfl), ih (Int.le_refl _), nmW_not hd.ne0]
  | @namVar o w c ts h1 h2 =>
    intro hn
    rw [nmW_name (hn _ _ rfl).1 (hn _ _ rfl).2]
    rfl
  | @namElem o w c ts ts' e hs h ih =>
    intro hn
    rw [nmW_name (hn _ _ rfl).1 (hn _ _ rfl).2, ih (by rintro w' t' e; cases e; exact hs.ne0)]
    simp [Ex.nms, Ex.nmsL]
  | @namCall o w c ts ts' es hs h ih =>
    intro hn
    rw [nmW_name (hn _ _ rfl).1 (hn _ _ rfl).2, ih (by rintro w' t' e; cases e; exact hs.ne0)]
    simp [Ex.nms]
  | @givNone o w d ts ho hd =>
    intro hn
    rw [nmW_not (hn _ _ rfl), nmW_not hd.ne0]
    rfl
  | @givSome o w d f ts ts' es ho hd h hf ih =>
    intro hn
    simp only [NmPost, Ex.nmsL, List.nil_append] at ih
    rw [nmW_not (hn _ _ rfl), ih, nmW_not hf.ne0]
  | @lstMore o d ts ts' acc e r h hd h2 ih ih2 =>
    cases r with
    | ok | bad => trivial
    | okL es t =>
      simp only [NmPost, nmsL_append, Ex.nmsL, List.append_nil] at ih2 ⊢
      rw [ih (Int.le_refl _), nmW_not hd.ne0, ← ih2, List.append_assoc]
  | @lstEnd o d ts ts' acc e h hd ih =>
    simp only [NmPost, nmsL_append, Ex.nmsL, List.append_nil]
    rw [ih (Int.le_refl _), List.append_assoc]
  | @expr o r ts ts' l res h h2 ih ih2 =>
    cases res with
    | ok e t =>
      intro hr
      rw [← ih2 hr, ih]
    | okL | bad => trivial
  | loopEnd hr => intro _; rfl
  | @loopMore o r l e c ts ts' res hr h h2 ih ih2 =>
    cases res with
    | okL | bad => trivial
    | ok x t =>
      intro h1
      have hc := rkW_ne (w := c) (by omega)
      rw [← ih2 h1, nmW_not (by rw [hc.1]; decide), ih (by omega)]
      simp [Ex.nms, Ex.nmsL]
end Go.Proofs.YtngfbpmabdmkeaaGreatDoor
namespace Go.Proofs.YtngfbpmabdmkeaaGreatDoor
open Go

section
variable {num : List UInt8 → Option Int}

/-- A text that doesn't go on with a letter or a digit. -/
def Stop (t : List UInt8) : Prop := ∀ c r, t = c :: r → isPart c = false
theorem Stop.cons {c : UInt8} (h : isPart c = false) (r : List UInt8) : Stop (c :: r) := by rintro c' r' e; cases e; exact h
theorem Stop.nil : Stop [] := by rintro c' r' e; cases e

theorem span_all {p : List UInt8} (hp : ∀ c ∈ p, isPart c = true) {tl : List UInt8} (ht : Stop tl) : spanL (p ++ tl) = p.length := by
  unfold spanL
  cases tl with
  | nil => rw [List.append_nil, takeWhile_all _ _ hp]
  | cons x r => rw [takeWhile_stop isPart x (ht x r rfl), takeWhile_all _ _ hp]
theorem tok_name {t tl : List UInt8} (h : NameB t) (ht : Stop tl) : tok num (t ++ tl) = .word 0 t.length 0 := by
  obtain ⟨c, r, rfl, hc, hr, hl, -⟩ := h
  have hs : spanL (c :: r ++ tl) = (c :: r).length := span_all (by
    intro d hd
    rcases List.mem_cons.1 hd with rfl | hd
    · simp [isPart, hc]
    · exact hr d hd) ht
  have hb : isBlank c = false := by
    by_cases h : isBlank c = true
    · exfalso
      simp only [isBlank, Bool.or_eq_true, beq_iff_eq] at h
      rcases h with ((rfl | rfl) | rfl) | rfl <;> exact absurd hc (by decide)
    · simpa using h
  have h47 : c ≠ 47 := by rintro rfl; exact absurd hc (by decide)
  rw [List.cons_append] at hs ⊢
  simp only [tok]
  rw [if_neg (by rw [hb]; decide), if_neg (fun h => h47 h.1), if_pos hc, hs, if_neg (by omega)]
theorem dec_digits (u : Nat) : ∀ c ∈ Lib.decDigits u, isDigit c = true := by
  induction u using Nat.strongRecOn with
  | _ u ih =>
    rw [Lib.decDigits]
    split
    · intro c hc
      rw [List.mem_singleton] at hc
      subst hc
      have : (UInt8.ofNat (48 + u)).toNat = 48 + u := by rw [UInt8.toNat_ofNat']; omega
      simp only [isDigit, this, Bool.and_eq_true, decide_eq_true_eq]
      omega
    · intro c hc
      rcases List.mem_append.1 hc with hc | hc
      · exact ih (u / 10) (by omega) c hc
      · rw [List.mem_singleton] at hc
        subst hc
        have : (UInt8.ofNat (48 + u % 10)).toNat = 48 + u % 10 := by rw [UInt8.toNat_ofNat']; omega
        simp only [isDigit, this, Bool.and_eq_true, decide_eq_true_eq]
        omega
theorem dec_ne (u : Nat) : Lib.decDigits u ≠ [] := by
  rw [Lib.decDigits]
  split <;> simp
theorem itoa_digits {n : Int} (h : 0 ≤ n) : ∃ c r, Lib.itoa n = c :: r ∧ ∀ d ∈ c :: r, isDigit d = true := by
  have e : Lib.itoa n = Lib.decDigits n.toNat := by unfold Lib.itoa; rw [if_neg (by omega)]
  obtain ⟨c, r, hc⟩ := List.exists_cons_of_ne_nil (dec_ne n.toNat)
  exact ⟨c, r, by rw [e, hc], by rw [← hc]; exact dec_digits _⟩
theorem digit_plain {c : UInt8} (h : isDigit c = true) : isBlank c = false ∧ c ≠ 47 ∧ isLetter c = false ∧ isPart c = true ∧ c ≠ 61 := by
  simp only [isDigit, Bool.and_eq_true, decide_eq_true_eq] at h
  refine ⟨?_, ?_, ?_, ?_, ?_⟩
  · by_cases hb : isBlank c = true
    · exfalso
      simp only [isBlank, Bool.or_eq_true, beq_iff_eq] at hb
      rcases hb with ((rfl | rfl) | rfl) | rfl <;> exact absurd h (by decide)
    · simpa using hb
  · rintro rfl; exact absurd h (by decide)
  · by_cases hb : isLetter c = true
    · exfalso
      simp only [isLetter, Bool.or_eq_true, Bool.and_eq_true, decide_eq_true_eq] at hb
      omega
    · simpa using hb
  · simp only [isPart, isDigit, Bool.or_eq_true, Bool.and_eq_true, decide_eq_true_eq]
    exact .inr h
  · rintro rfl; exact absurd h (by decide)
theorem tok_num {n : Int} (h : 0 ≤ n) (hnum : num (Lib.itoa n) = some n) {tl : List UInt8} (ht : Stop tl) : tok num (Lib.itoa n ++ tl) = .word 1 (Lib.itoa n).length n := by
  obtain ⟨c, r, e, hd⟩ := itoa_digits h
  rw [e] at hnum ⊢
  have hs : spanL (c :: r ++ tl) = (c :: r).length := span_all (fun d hd' => (digit_plain (hd d hd')).2.2.2.1) ht
  obtain ⟨h1, h2, h3, -, -⟩ := digit_plain (hd c (by simp))
  have htk : (c :: r ++ tl).take (c :: r).length = c :: r := List.take_left
  rw [List.cons_append] at hs htk ⊢
  simp only [tok]
  rw [if_neg (by rw [h1]; decide), if_neg (fun h => h2 h.1), if_neg (by rw [h3]; decide), if_pos (hd c (by simp)), hs, htk, hnum]

/-- A sign of one byte. -/
theorem tok_one {c : UInt8} {tl : List UInt8} (h : c ∈ [(40 : UInt8), 41, 91, 93, 44, 45, 59, 123, 125]) : tok num (c :: tl) = .word 2 1 0 := by
  have hs : sgnLen (c :: tl) = 1 := by
    cases tl with
    | nil => simp only [List.mem_cons, List.not_mem_nil, or_false] at h; rcases h with rfl | rfl | rfl | rfl | rfl | rfl | rfl | rfl | rfl <;> rfl
    | cons d r =>
      simp only [sgnLen]
      rw [if_neg, if_pos]
      · simp only [List.mem_cons, List.not_mem_nil, or_false] at h; rcases h with rfl | rfl | rfl | rfl | rfl | rfl | rfl | rfl | rfl <;> rfl
      · simp only [List.mem_cons, List.not_mem_nil, or_false] at h; rcases h with rfl | rfl | rfl | rfl | rfl | rfl | rfl | rfl | rfl <;> simp [pairL]
  have h2 : isBlank c = false ∧ c ≠ 47 ∧ isLetter c = false ∧ isDigit c = false := by
    simp only [List.mem_cons, List.not_mem_nil, or_false] at h
    rcases h with rfl | rfl | rfl | rfl | rfl | rfl | rfl | rfl | rfl <;> decide
  simp only [tok]
  rw [if_neg (by rw [h2.1]; decide), if_neg (fun h => h2.2.1 h.1), if_neg (by rw [h2.2.2.1]; decide), if_neg (by rw [h2.2.2.2]; decide), hs, if_neg (by decide)]
theorem tok_bang {tl : List UInt8} (h : ∀ r, tl ≠ 61 :: r) : tok num (33 :: tl) = .word 2 1 0 := by
  have hs : sgnLen (33 :: tl) = 1 := by
    cases tl with
    | nil => rfl
    | cons d r =>
      have hd : d ≠ 61 := fun e => h r (by rw [e])
      simp only [sgnLen]
      rw [if_neg (by simp [pairL]; exact hd), if_pos (by decide)]
  simp only [tok]
  rw [if_neg (by decide), if_neg (fun h => absurd h.1 (by decide)), if_neg (by decide), if_neg (by decide), hs, if_neg (by decide)]
/-- An operator's sign, with a space behind it. -/
theorem tok_op (tl : List UInt8) : ∀ j : Nat, j < 19 → j ≠ 16 → tok num (sgB j ++ 32 :: tl) = .word 2 (sgB j).length 0
  | 0, _, _ | 1, _, _ | 2, _, _ | 3, _, _ | 4, _, _ | 5, _, _ | 6, _, _ | 7, _, _ | 8, _, _ | 9, _, _ | 10, _, _ | 11, _, _ | 12, _, _ | 13, _, _ | 14, _, _ | 15, _, _ | 17, _, _ | 18, _, _ => rfl
  | 16, _, h => absurd rfl h
  | j + 19, h, _ => absurd h (by omega)
theorem sgB_ne : ∀ j : Nat, j < 19 → j ≠ 16 → sgB j ≠ [] := by decide

theorem Sc.push {p tl : List UInt8} {a : Nat} {ws : List Wd} {k v : Int} (hp : p ≠ []) (ht : tok num (p ++ tl) = .word k p.length v) (h : Sc num tl (a + p.length) ws none) : Sc num (p ++ tl) a (⟨k, p, v, a⟩ :: ws) none := by
  have := Sc.word (num := num) (p ++ tl) a p.length k v ws none (by simp [hp]) ht (by rw [List.drop_left]; exact h)
  rwa [List.take_left] at this
theorem Sc.one {c : UInt8} {tl : List UInt8} {a : Nat} {ws : List Wd} (hc : c ∈ [(40 : UInt8), 41, 91, 93, 44, 45, 59, 123, 125]) (h : Sc num tl (a + 1) ws none) : Sc num (c :: tl) a (⟨2, [c], 0, a⟩ :: ws) none :=
  Sc.push (p := [c]) (by simp) (tok_one hc) h
theorem Sc.space {tl : List UInt8} {a : Nat} {ws : List Wd} {r : Option (Int × Nat)} (h : Sc num tl (a + 1) ws r) : Sc num (32 :: tl) a ws r :=
  .gap _ a 1 _ _ (by simp) (tok_sep (.inl rfl) num _) h

theorem kind2_rk {t : List UInt8} {v : Int} {a : Nat} (h : rnkZ (opB t) = 0) : rkW ⟨2, t, v, a⟩ = 0 := by unfold rkW; rw [if_pos rfl]; exact h
theorem opB_none : opB [41] = -1 ∧ opB [93] = -1 ∧ opB [44] = -1 ∧ opB [91] = -1 ∧ opB [40] = -1 := by
  refine ⟨?_, ?_, ?_, ?_, ?_⟩ <;> simp [opB, opM, opGo, sgn, sgnL, ByteArray.toList_eq]
theorem rk_rb (v : Int) (a : Nat) : rkW ⟨2, [41], v, a⟩ = 0 := by unfold rkW; rw [if_pos rfl]; exact (congrArg rnkZ opB_none.1).trans rfl
theorem rk_sb (v : Int) (a : Nat) : rkW ⟨2, [93], v, a⟩ = 0 := by unfold rkW; rw [if_pos rfl]; exact (congrArg rnkZ opB_none.2.1).trans rfl
theorem rk_cm (v : Int) (a : Nat) : rkW ⟨2, [44], v, a⟩ = 0 := by unfold rkW; rw [if_pos rfl]; exact (congrArg rnkZ opB_none.2.2.1).trans rfl
theorem rk_op {j : Nat} (h : j < 19) (h2 : j ≠ 16) (v : Int) (a : Nat) : rkW ⟨2, sgB j, v, a⟩ = rnkZ j := by unfold rkW; rw [if_pos rfl, opB_of j h h2]

/-- A word that can stand behind an expression: it opens nothing. -/
def Shut (c : Wd) : Prop := ¬ Sg c [91] ∧ ¬ Sg c [40]
/-- Words that are read as x, whatever stands behind them. -/
def Prs (o : Nat) (r : Int) (x : Ex) (wx : List Wd) : Prop := ∃ x', x.eqv x' = true ∧ ∀ c ts, rkW c ≤ r → Shut c →
  (∀ r' res, 1 ≤ r' → r' ≤ r → P o (.loop r' x') (c :: ts) res → P o (.expr r') (wx ++ c :: ts) res) ∧ (r = 11 → P o .thing (wx ++ c :: ts) (.ok x' (c :: ts)))
/-- A text that is read as x. -/
def Reads (num : List UInt8 → Option Int) (o : Nat) (r : Int) (x : Ex) (t : List UInt8) : Prop := (∃ h t', t = h :: t' ∧ h ≠ 61) ∧
  ∀ (tl : List UInt8) (a : Nat) (ws : List Wd), Stop tl → Sc num tl (a + t.length) ws none → ∃ wx, Sc num (t ++ tl) a (wx ++ ws) none ∧ Prs o r x wx

theorem Prs.thing {o : Nat} {x x' : Ex} {wx : List Wd} (he : x.eqv x' = true) (h : ∀ c ts, Shut c → P o .thing (wx ++ c :: ts) (.ok x' (c :: ts))) (r : Int) : Prs o r x wx :=
  ⟨x', he, fun c ts _ hs => ⟨fun _ _ _ _ hl => .expr (h c ts hs) hl, fun _ => h c ts hs⟩⟩
theorem Prs.whole {o : Nat} {x : Ex} {wx : List Wd} (h : Prs o 1 x wx) : ∃ x', x.eqv x' = true ∧ ∀ c ts, rkW c = 0 → Shut c → P o (.expr 1) (wx ++ c :: ts) (.ok x' (c :: ts)) := by
  obtain ⟨x', h1, h2⟩ := h
  exact ⟨x', h1, fun c ts hc hs => (h2 c ts (by omega) hs).1 1 _ (Int.le_refl _) (Int.le_refl _) (.loopEnd (by omega))⟩
theorem shut_of {t : List UInt8} (h : t ≠ [91]) (h2 : t ≠ [40]) (v : Int) (a : Nat) : Shut ⟨2, t, v, a⟩ := ⟨fun e => h e.2, fun e => h2 e.2⟩
theorem sg_of (t : List UInt8) (v : Int) (a : Nat) : Sg ⟨2, t, v, a⟩ t := ⟨rfl, rfl⟩

/-- No thing begins with a closing bracket. -/
theorem P.head41 {o : Nat} {j : Job} {ts : List Wd} {r : Res} (h : P o j ts r) : (j = .thing ∨ (∃ q, j = .expr q) ∨ ∃ acc, j = .list acc) → (∀ c a, r ≠ .bad c a) → ∀ w t, ts = w :: t → ¬ Sg w [41] := by
  induction h with
  | num h => rintro _ _ w t e; cases e; intro hs; rw [hs.1] at h; cases h
  | tru h _ | fls h _ => rintro _ _ w t e; cases e; intro hs; rw [hs.1] at h; cases h
  | neg h _ _ | not h _ _ | par h _ _ => rintro _ _ w t e; cases e; intro hs; exact absurd (h.2.symm.trans hs.2) (by decide)
  | name h _ _ _ => rintro _ _ w t e; cases e; intro hs; rw [hs.1] at h; cases h
  | stray | behLim | behBad | wthLim | wthNo | wthBad | namElemBad | namCallBad | givLim | givNo | givBad | lstBad | exprBad | loopBad => intro _ h; exact absurd rfl (h _ _)
  | behOk | wthOk | namVar | namElem | namCall | givNone | givSome | loopEnd | loopMore => intro h; rcases h with h | ⟨_, h⟩ | ⟨_, h⟩ <;> cases h
  | lstMore _ _ _ ih _ => intro _ _; exact ih (.inr (.inl ⟨_, rfl⟩)) (by intros; simp)
  | lstEnd _ _ ih => intro _ _; exact ih (.inr (.inl ⟨_, rfl⟩)) (by intros; simp)
  | expr _ _ ih _ => intro _ _; exact ih (.inl rfl) (by intros; simp)

/-- Kids behind commas, up to a bracket. -/
theorem reads_rest {o : Nat} : ∀ (es : List Ex), (∀ e ∈ es, Reads num o 1 e e.txt) → ∀ (tl : List UInt8) (a : Nat) (ws : List Wd), Sc num tl (a + ((Ex.kds es).flatMap fun y => 44 :: 32 :: y.2.2).length + 1) ws none →
    ∃ wx b, Sc num (((Ex.kds es).flatMap fun y => 44 :: 32 :: y.2.2) ++ 41 :: tl) a (wx ++ ⟨2, [41], 0, b⟩ :: ws) none ∧ ∃ es', Ex.eqvL es es' = true ∧
      ∀ ts, (∃ d t, wx ++ ⟨2, [41], 0, b⟩ :: ts = d :: t ∧ rkW d = 0 ∧ Shut d) ∧ ∀ (acc : List Ex) (ts0 : List Wd) (e0 : Ex), P o (.expr 1) ts0 (.ok e0 (wx ++ ⟨2, [41], 0, b⟩ :: ts)) → P o (.list acc) ts0 (.okL (acc ++ e0 :: es') (⟨2, [41], 0, b⟩ :: ts))
  | [], _, tl, a, ws, hs => by
    refine ⟨[], a, by simpa [Ex.kds] using Sc.one (by decide) hs, [], rfl, fun ts => ⟨⟨_, _, rfl, rk_rb _ _, shut_of (by decide) (by decide) _ _⟩, fun acc ts0 e0 h => ?_⟩⟩
    exact .lstEnd h (fun e => absurd (show ([41] : List UInt8) = [44] from e.2) (by decide))
  | x :: r, hr, tl, a, ws, hs => by
    have e1 : ((Ex.kds (x :: r)).flatMap fun y => 44 :: 32 :: y.2.2) = 44 :: 32 :: (x.txt ++ (Ex.kds r).flatMap fun y => 44 :: 32 :: y.2.2) := by simp [Ex.kds]
    rw [e1] at hs ⊢
    simp only [List.length_cons, List.length_append] at hs
    obtain ⟨wr, b, h1, es', h2, h3⟩ := reads_rest r (fun e he => hr e (List.mem_cons_of_mem _ he)) tl (a + 2 + x.txt.length) ws (by
      have e : a + 2 + x.txt.length + ((Ex.kds r).flatMap fun y => 44 :: 32 :: y.2.2).length + 1 = a + (x.txt.length + ((Ex.kds r).flatMap fun y => 44 :: 32 :: y.2.2).length + 1 + 1) + 1 := by omega
      rw [e]; exact hs)
    obtain ⟨wx, h4, h5⟩ := (hr x (by simp)).2 (((Ex.kds r).flatMap fun y => 44 :: 32 :: y.2.2) ++ 41 :: tl) (a + 2) _ (by
      cases r with
      | nil => exact Stop.cons (by decide) _
      | cons y r => simp only [Ex.kds, List.flatMap_cons, List.cons_append]; exact Stop.cons (by decide) _) h1
    obtain ⟨x', hx', hp⟩ := h5.whole
    refine ⟨⟨2, [44], 0, a⟩ :: wx ++ wr, b, ?_, x' :: es', by simp only [Ex.eqvL, hx', h2, Bool.and_self], fun ts => ⟨⟨_, _, by rw [List.cons_append, List.cons_append], rk_cm _ _, shut_of (by decide) (by decide) _ _⟩, fun acc ts0 e0 h => ?_⟩⟩
    · have h6 := Sc.one (num := num) (c := 44) (by decide) (Sc.space h4)
      simpa [List.append_assoc] using h6
    · obtain ⟨⟨d, t, hd, hd0, hds⟩, h7⟩ := h3 ts
      rw [List.cons_append, List.cons_append, List.append_assoc] at h
      refine .lstMore h (sg_of _ _ _) ?_
      have h8 := hp d t hd0 hds
      rw [← hd] at h8
      simpa [List.append_assoc] using h7 (acc ++ [e0]) _ _ h8

theorem reads_row {o : Nat} (x : Ex) (r : List Ex) (hr : ∀ e ∈ x :: r, Reads num o 1 e e.txt) (tl : List UInt8) (a : Nat) (ws : List Wd) (hs : Sc num tl (a + (rowK (Ex.kds (x :: r))).length + 1) ws none) :
    ∃ wx b, Sc num (rowK (Ex.kds (x :: r)) ++ 41 :: tl) a (wx ++ ⟨2, [41], 0, b⟩ :: ws) none ∧ ∃ es', Ex.eqvL (x :: r) es' = true ∧ ∀ ts, P o (.list []) (wx ++ ⟨2, [41], 0, b⟩ :: ts) (.okL es' (⟨2, [41], 0, b⟩ :: ts)) := by
  have e1 : rowK (Ex.kds (x :: r)) = x.txt ++ (Ex.kds r).flatMap fun y => 44 :: 32 :: y.2.2 := by simp [Ex.kds, rowK]
  rw [e1] at hs ⊢
  rw [List.length_append] at hs
  obtain ⟨wr, b, h1, es', h2, h3⟩ := reads_rest r (fun e he => hr e (List.mem_cons_of_mem _ he)) tl (a + x.txt.length) ws (by rw [Nat.add_assoc a]; exact hs)
  obtain ⟨wx, h4, h5⟩ := (hr x (by simp)).2 (((Ex.kds r).flatMap fun y => 44 :: 32 :: y.2.2) ++ 41 :: tl) a _ (by
    cases r with
    | nil => exact Stop.cons (by decide) _
    | cons y r => simp only [Ex.kds, List.flatMap_cons, List.cons_append]; exact Stop.cons (by decide) _) h1
  obtain ⟨x', hx', hp⟩ := h5.whole
  refine ⟨wx ++ wr, b, by simpa [List.append_assoc] using h4, x' :: es', by simp only [Ex.eqvL, hx', h2, Bool.and_self], fun ts => ?_⟩
  obtain ⟨⟨d, t, hd, hd0, hds⟩, h7⟩ := h3 ts
  have h8 := hp d t hd0 hds
  rw [← hd] at h8
  simpa [List.append_assoc] using h7 [] _ _ h8

theorem Fit.low1 {o : Nat} {x : Ex} (h : Fit o 1 x) : x.txtAt 1 = x.txt := by
  cases h with
  | two h1 h2 h3 => exact txtAt_low h3
  | brk h1 h2 => omega
  | num | tru | fls | var | elem | neg | not | call => exact txtAt_not (by simp [Ex.k]) _

theorem key_tru : keyB truB = true := by decide
theorem key_fls : keyB flsB = true := by decide
theorem tok_plain {t tl : List UInt8} (h : t ≠ [] ∧ t.length ≤ 24 ∧ ∀ c ∈ t, isLetter c = true) (ht : Stop tl) : tok num (t ++ tl) = .word 0 t.length 0 := by
  obtain ⟨h1, h2, h3⟩ := h
  obtain ⟨c, r, rfl⟩ := List.exists_cons_of_ne_nil h1
  have hc := h3 c (by simp)
  have hs : spanL (c :: r ++ tl) = (c :: r).length := span_all (fun d hd => by simp [isPart, h3 d hd]) ht
  have hb : isBlank c = false := by
    by_cases h : isBlank c = true
    · exfalso
      simp only [isBlank, Bool.or_eq_true, beq_iff_eq] at h
      rcases h with ((rfl | rfl) | rfl) | rfl <;> exact absurd hc (by decide)
    · simpa using h
  have h47 : c ≠ 47 := by rintro rfl; exact absurd hc (by decide)
  rw [List.cons_append] at hs ⊢
  simp only [tok]
  rw [if_neg (by rw [hb]; decide), if_neg (fun h => h47 h.1), if_pos hc, hs, if_neg (by omega)]

/-- What fits is read again. -/
theorem Fit.reads (hnum : ∀ n : Int, 0 ≤ n → n ≤ 9223372036854775807 → num (Lib.itoa n) = some n) {o : Nat} {r : Int} {x : Ex} (h : Fit o r x) : r ≤ 11 → Reads num o r x (x.txtAt r) := by
  induction h with
  | @num o r n a h0 h1 =>
    intro _
    rw [txtAt_not (by simp [Ex.k]), txt_num]
    obtain ⟨c, t', e, hd⟩ := itoa_digits h0
    refine ⟨⟨c, t', e, (digit_plain (hd c (by simp))).2.2.2.2⟩, fun tl b ws ht hs => ⟨[⟨1, Lib.itoa n, n, b⟩], Sc.push (by rw [e]; simp) (tok_num h0 (hnum n h0 h1) ht) hs, ?_⟩⟩
    exact .thing (eqv_mk (by simp only [Ex.eqvL]) _ _) (fun c ts _ => .num rfl) r
  | @tru o r a =>
    intro _
    rw [txtAt_not (by simp [Ex.k]), txt_truth, if_neg (by decide)]
    refine ⟨⟨116, _, rfl, by decide⟩, fun tl b ws ht hs => ⟨[⟨0, truB, 0, b⟩], Sc.push (by decide) (tok_plain (by decide) ht) hs, ?_⟩⟩
    exact .thing (eqv_mk (by simp only [Ex.eqvL]) _ _) (fun c ts _ => .tru rfl rfl) r
  | @fls o r a =>
    intro _
    rw [txtAt_not (by simp [Ex.k]), txt_truth, if_pos rfl]
    refine ⟨⟨102, _, rfl, by decide⟩, fun tl b ws ht hs => ⟨[⟨0, flsB, 0, b⟩], Sc.push (by decide) (tok_plain (by decide) ht) hs, ?_⟩⟩
    exact .thing (eqv_mk (by simp only [Ex.eqvL]) _ _) (fun c ts _ => .fls rfl rfl) r
  | @var o r nm a hn =>
    intro _
    rw [txtAt_not (by simp [Ex.k]), txt_var]
    obtain ⟨c, t', e, hc, -, -, hk⟩ := id hn
    refine ⟨⟨c, t', e, by rintro rfl; exact absurd hc (by decide)⟩, fun tl b ws ht hs => ⟨[⟨0, nm, 0, b⟩], Sc.push (by rw [e]; simp) (tok_name hn ht) hs, ?_⟩⟩
    exact .thing (eqv_mk (by simp only [Ex.eqvL]) _ _) (fun c ts hs => .name rfl hk (.namVar hs.1 hs.2)) r
  | @elem o r nm e a hn ho h ih =>
    intro _
    rw [txtAt_not (by simp [Ex.k]), txt_elem]
    obtain ⟨-, ih⟩ := ih (by decide)
    rw [h.low1] at ih
    obtain ⟨c, t', ec, hc, -, -, hk⟩ := id hn
    refine ⟨⟨c, _, by rw [ec]; rfl, by rintro rfl; exact absurd hc (by decide)⟩, fun tl b ws ht hs => ?_⟩
    simp only [List.length_append, List.length_cons, List.length_nil] at hs
    obtain ⟨wx, h1, h2⟩ := ih (93 :: tl) (b + nm.length + 1) (⟨2, [93], 0, b + nm.length + 1 + e.txt.length⟩ :: ws) (.cons (by decide) _) (Sc.one (by decide) (by
      have e1 : b + nm.length + 1 + e.txt.length + 1 = b + (nm.length + (e.txt.length + (0 + 1) + 1)) := by omega
      rw [e1]; exact hs))
    obtain ⟨e', he, hp⟩ := h2.whole
    refine ⟨⟨0, nm, 0, b⟩ :: ⟨2, [91], 0, b + nm.length⟩ :: (wx ++ [⟨2, [93], 0, b + nm.length + 1 + e.txt.length⟩]), ?_, ?_⟩
    · have h3 := Sc.push (num := num) (p := nm) (by rw [ec]; simp) (tok_name hn (.cons (by decide) _)) (Sc.one (c := 91) (by decide) h1)
      simpa [List.append_assoc] using h3
    · refine .thing (x' := .mk 3 0 0 nm [e'] b) (eqv_mk (eqvL_one he) _ _) (fun c ts _ => ?_) r
      refine .name rfl hk (.namElem (sg_of _ _ _) (.wthOk ho (d := ⟨2, [93], 0, b + nm.length + 1 + e.txt.length⟩) ?_ (sg_of _ _ _)))
      simpa [List.append_assoc] using hp ⟨2, [93], 0, b + nm.length + 1 + e.txt.length⟩ (c :: ts) (rk_sb _ _) (shut_of (by decide) (by decide) _ _)
  | @neg o r e a ho h ih =>
    intro _
    rw [txtAt_not (by simp [Ex.k]), txt_neg]
    obtain ⟨-, ih⟩ := ih (by decide)
    refine ⟨⟨45, _, rfl, by decide⟩, fun tl b ws ht hs => ?_⟩
    obtain ⟨wx, h1, e', he, hp⟩ := ih tl (b + 1) ws ht (by rw [List.length_cons] at hs; rw [Nat.add_assoc, Nat.add_comm 1]; exact hs)
    refine ⟨⟨2, [45], 0, b⟩ :: wx, Sc.one (by decide) h1, ?_⟩
    refine .thing (x' := .mk 4 0 0 [] [e'] b) (eqv_mk (eqvL_one he) _ _) (fun c ts hc => ?_) r
    exact .neg (sg_of _ _ _) (.behOk ho ((hp c ts (by have := (rkW_bd c).2; omega) hc).2 rfl))
  | @not o r e a ho h ih =>
    intro _
    rw [txtAt_not (by simp [Ex.k]), txt_not]
    obtain ⟨⟨y, t', ey, hy⟩, ih⟩ := ih (by decide)
    refine ⟨⟨33, _, rfl, by decide⟩, fun tl b ws ht hs => ?_⟩
    obtain ⟨wx, h1, e', he, hp⟩ := ih tl (b + 1) ws ht (by rw [List.length_cons] at hs; rw [Nat.add_assoc, Nat.add_comm 1]; exact hs)
    refine ⟨⟨2, [33], 0, b⟩ :: wx, Sc.push (p := [33]) (by simp) (tok_bang (by rw [ey]; rintro r e; cases e; exact hy rfl)) h1, ?_⟩
    refine .thing (x' := .mk 5 0 0 [] [e'] b) (eqv_mk (eqvL_one he) _ _) (fun c ts hc => ?_) r
    exact .not (sg_of _ _ _) (.behOk ho ((hp c ts (by have := (rkW_bd c).2; omega) hc).2 rfl))
  | @two o j r l e a j1 j2 j3 hl he ihl ihe =>
    intro hr
    have hj := (rnkZ_le j).2
    have hj0 := rank_pos j j1 j2
    rw [txtAt_low (by exact j3), txt_two]
    obtain ⟨⟨y, t', ey, hy⟩, ihl⟩ := ihl (by omega)
    obtain ⟨-, ihe⟩ := ihe (by omega)
    refine ⟨⟨y, _, by rw [ey]; rfl, hy⟩, fun tl b ws ht hs => ?_⟩
    have eo : opT j = 32 :: (sgB j ++ [32]) := by unfold opT; rw [sgnZ_nat j1]
    rw [eo] at hs ⊢
    simp only [List.length_append, List.length_cons, List.length_nil] at hs
    obtain ⟨we, h1, e', he', hp⟩ := ihe tl (b + (l.txtAt (rnkZ j)).length + 1 + (sgB j).length + 1) ws ht (by
      have e1 : b + (l.txtAt (rnkZ j)).length + 1 + (sgB j).length + 1 + (e.txtAt (rnkZ j + 1)).length = b + ((l.txtAt (rnkZ j)).length + ((sgB j).length + (0 + 1) + 1 + (e.txtAt (rnkZ j + 1)).length)) := by omega
      rw [e1]; exact hs)
    have h2 := Sc.push (num := num) (sgB_ne j j1 j2) (tok_op (e.txtAt (rnkZ j + 1) ++ tl) j j1 j2) (a := b + (l.txtAt (rnkZ j)).length + 1) (Sc.space h1)
    obtain ⟨wl, h3, l', hl', hpl⟩ := ihl (32 :: (sgB j ++ 32 :: (e.txtAt (rnkZ j + 1) ++ tl))) b _ (.cons (by decide) _) (Sc.space h2)
    refine ⟨wl ++ ⟨2, sgB j, 0, b + (l.txtAt (rnkZ j)).length + 1⟩ :: we, by simpa [List.append_assoc] using h3, .mk 6 j 0 [] [l', e'] l'.a, eqv_mk (eqvL_two hl' he') _ _, fun c ts hc hsh => ⟨fun r' res h1r hrr hres => ?_, fun h11 => by omega⟩⟩
    have ho := rk_op j1 j2 0 (b + (l.txtAt (rnkZ j)).length + 1)
    rw [List.append_assoc]
    refine (hpl ⟨2, sgB j, 0, b + (l.txtAt (rnkZ j)).length + 1⟩ (we ++ c :: ts) (by omega) (shut_of (fun e => ?_) (fun e => ?_) _ _)).1 r' res h1r (by omega) ?_
    · have h5 : 1 ≤ rnkZ (opB [91]) := by rw [← e, opB_of j j1 j2]; exact hj0
      rw [opB_none.2.2.2.1] at h5
      exact absurd h5 (by decide)
    · have h5 : 1 ≤ rnkZ (opB [40]) := by rw [← e, opB_of j j1 j2]; exact hj0
      rw [opB_none.2.2.2.2] at h5
      exact absurd h5 (by decide)
    · refine .loopMore (by omega) (e := e') (ts' := c :: ts) ?_ ?_
      · rw [ho]
        exact (hp c ts (by omega) hsh).1 _ _ (by omega) (Int.le_refl _) (.loopEnd (by omega))
      · show P o (.loop r' (.mk 6 (opB (sgB j)) 0 [] [l', e'] l'.a)) (c :: ts) res
        rw [opB_of j j1 j2]
        exact hres
  | @brk o j r l e a h0 h1 ho h ih =>
    intro hr
    rw [txtAt_brk rfl h1]
    obtain ⟨-, ih⟩ := ih (by decide)
    rw [h.low1] at ih
    refine ⟨⟨40, _, rfl, by decide⟩, fun tl b ws ht hs => ?_⟩
    simp only [List.length_append, List.length_cons, List.length_nil] at hs
    obtain ⟨wx, h2, h3⟩ := ih (41 :: tl) (b + 1) (⟨2, [41], 0, b + 1 + (Ex.mk 6 j 0 [] [l, e] a).txt.length⟩ :: ws) (.cons (by decide) _) (Sc.one (by decide) (by
      have e1 : b + 1 + (Ex.mk 6 j 0 [] [l, e] a).txt.length + 1 = b + ((Ex.mk 6 j 0 [] [l, e] a).txt.length + (0 + 1) + 1) := by omega
      rw [e1]; exact hs))
    obtain ⟨e', he, hp⟩ := h3.whole
    refine ⟨⟨2, [40], 0, b⟩ :: (wx ++ [⟨2, [41], 0, b + 1 + (Ex.mk 6 j 0 [] [l, e] a).txt.length⟩]), ?_, ?_⟩
    · have h4 := Sc.one (num := num) (c := 40) (by decide) h2
      simpa [List.append_assoc] using h4
    · refine .thing he (fun c ts _ => ?_) r
      refine .par (sg_of _ _ _) (.wthOk ho (d := ⟨2, [41], 0, b + 1 + (Ex.mk 6 j 0 [] [l, e] a).txt.length⟩) ?_ (sg_of _ _ _))
      simpa [List.append_assoc] using hp ⟨2, [41], 0, b + 1 + (Ex.mk 6 j 0 [] [l, e] a).txt.length⟩ (c :: ts) (rk_rb _ _) (shut_of (by decide) (by decide) _ _)
  | @call o r nm es a hn ho h ih =>
    intro _
    rw [txtAt_not (by simp [Ex.k]), txt_call]
    obtain ⟨c, t', ec, hc, -, -, hk⟩ := id hn
    refine ⟨⟨c, _, by rw [ec]; rfl, by rintro rfl; exact absurd hc (by decide)⟩, fun tl b ws ht hs => ?_⟩
    simp only [List.length_append, List.length_cons, List.length_nil] at hs
    cases es with
    | nil =>
      have e0 : rowK (Ex.kds []) = [] := by simp only [Ex.kds, rowK]
      rw [e0] at hs ⊢
      have h1 := Sc.one (num := num) (c := 41) (by decide) (a := b + nm.length + 1) (tl := tl) (ws := ws) (by
        have e1 : b + nm.length + 1 + 1 = b + (nm.length + (([] : List UInt8).length + (0 + 1) + 1)) := by simp only [List.length_nil]; omega
        rw [e1]; exact hs)
      refine ⟨⟨0, nm, 0, b⟩ :: ⟨2, [40], 0, b + nm.length⟩ :: [⟨2, [41], 0, b + nm.length + 1⟩], ?_, ?_⟩
      · have h3 := Sc.push (num := num) (p := nm) (by rw [ec]; simp) (tok_name hn (.cons (by decide) _)) (Sc.one (c := 40) (by decide) h1)
        simpa [List.append_assoc] using h3
      · refine .thing (x' := .mk 7 0 0 nm [] b) (eqv_mk (by simp only [Ex.eqvL]) _ _) (fun c ts _ => ?_) r
        exact .name rfl hk (.namCall (sg_of _ _ _) (.givNone ho (sg_of _ _ _)))
    | cons x q =>
      obtain ⟨wx, f, h1, es', h2, h3⟩ := reads_row x q (fun e he => by
        have := ih e he (by decide)
        rwa [(h e he).low1] at this) tl (b + nm.length + 1) ws (by
        have e1 : b + nm.length + 1 + (rowK (Ex.kds (x :: q))).length + 1 = b + (nm.length + ((rowK (Ex.kds (x :: q))).length + (0 + 1) + 1)) := by omega
        rw [e1]; exact hs)
      refine ⟨⟨0, nm, 0, b⟩ :: ⟨2, [40], 0, b + nm.length⟩ :: (wx ++ [⟨2, [41], 0, f⟩]), ?_, ?_⟩
      · have h4 := Sc.push (num := num) (p := nm) (by rw [ec]; simp) (tok_name hn (.cons (by decide) _)) (Sc.one (c := 40) (by decide) h1)
        simpa [List.append_assoc] using h4
      · refine .thing (x' := .mk 7 0 0 nm es' b) (eqv_mk h2 _ _) (fun c ts _ => ?_) r
        have h5 := h3 (c :: ts)
        refine .name rfl hk (.namCall (sg_of _ _ _) ?_)
        have e7 : (wx ++ [(⟨2, [41], 0, f⟩ : Wd)]).append (c :: ts) = wx ++ ⟨2, [41], 0, f⟩ :: c :: ts := by
          show (wx ++ [_]) ++ (c :: ts) = _
          rw [List.append_assoc]
          rfl
        rw [e7]
        have h6 := h5.head41 (.inr (.inr ⟨_, rfl⟩)) (by intros; simp)
        cases wx with
        | nil => exact absurd (sg_of _ _ _) (h6 _ _ rfl)
        | cons d t => exact .givSome ho (h6 _ _ rfl) h5 (sg_of _ _ _)
end
end Go.Proofs.YtngfbpmabdmkeaaGreatDoor
namespace Go.Proofs.YtngfbpmabdmkeaaGreatDoor
open Go

section
variable {num : List UInt8 → Option Int}

theorem mem_tw {p : UInt8 → Bool} : ∀ (l : List UInt8) (c : UInt8), c ∈ l.takeWhile p → p c = true
  | [], c, h => by simp at h
  | x :: r, c, h => by
    rw [List.takeWhile_cons] at h
    split at h
    · rcases List.mem_cons.1 h with rfl | h
      · assumption
      · exact mem_tw r c h
    · simp at h
theorem all_take {p : UInt8 → Bool} : ∀ l : List UInt8, ∀ c ∈ l.take (l.takeWhile p).length, p c = true := by
  intro l
  rw [take_takeWhile]
  intro c hc
  exact mem_tw l c hc
theorem Sc.wd_ok (hnum : ∀ t v, num t = some v → 0 ≤ v ∧ v ≤ 9223372036854775807 ∧ t = Lib.itoa v) {l : List UInt8} {a : Nat} {ws : List Wd} {r : Option (Int × Nat)} (h : Sc num l a ws r) : ∀ w ∈ ws, WdOk w := by
  induction h with
  | done a => intro w hw; simp at hw; subst hw; exact ⟨fun h => absurd (show (3 : Int) = 0 from h) (by decide), fun h => absurd (show (3 : Int) = 1 from h) (by decide), fun h => absurd rfl h⟩
  | bad => intro w hw; simp at hw
  | gap _ _ _ _ _ _ _ _ ih => exact ih
  | word l a n k v ws r hl ht hs ih =>
    intro w hw
    rcases List.mem_cons.1 hw with rfl | hw
    · have hn := tok_word hl ht
      refine ⟨fun hk hy => ?_, fun hk => ?_, fun _ => by show 1 ≤ (l.take n).length; rw [List.length_take]; omega⟩
      · obtain rfl : k = 0 := hk
        obtain ⟨c, q, rfl⟩ := List.exists_cons_of_ne_nil hl
        simp only [tok] at ht
        split at ht
        · cases ht
        split at ht
        · cases ht
        split at ht
        · rename_i hc
          split at ht
          · cases ht
          · rename_i hs24
            injection ht with e1 e2 e3
            subst e2
            have hall := all_take (p := isPart) (c :: q)
            obtain ⟨m, hm⟩ : ∃ m, spanL (c :: q) = m + 1 := ⟨spanL (c :: q) - 1, by have := hn.1; omega⟩
            refine ⟨c, q.take m, by rw [hm]; rfl, hc, fun d hd => hall d ?_, by rw [List.length_take]; omega, hy⟩
            show d ∈ (c :: q).take (spanL (c :: q))
            rw [hm, List.take_succ_cons]
            exact List.mem_cons_of_mem _ hd
        · split at ht
          · split at ht
            · injection ht with e1; cases e1
            · cases ht
          · split at ht
            · cases ht
            · injection ht with e1; cases e1
      · obtain rfl : k = 1 := hk
        obtain ⟨c, q, rfl⟩ := List.exists_cons_of_ne_nil hl
        simp only [tok] at ht
        split at ht
        · cases ht
        split at ht
        · cases ht
        split at ht
        · split at ht
          · cases ht
          · injection ht with e1; cases e1
        · split at ht
          · split at ht
            · rename_i v' hv
              injection ht with e1 e2 e3
              subst e3
              rw [e2] at hv
              exact hnum _ _ hv
            · cases ht
          · split at ht
            · cases ht
            · injection ht with e1; cases e1
    · exact ih w hw
theorem Sc.lens_le {l : List UInt8} {a : Nat} {ws : List Wd} {r : Option (Int × Nat)} (h : Sc num l a ws r) : lens ws ≤ l.length := by
  induction h with
  | done a => simp [lens]
  | bad => simp [lens]
  | gap l a n ws r _ _ _ ih =>
    rw [List.length_drop] at ih
    omega
  | word l a n k v ws r hl ht _ ih =>
    have := tok_word hl ht
    simp only [lens, List.length_take]
    rw [List.length_drop] at ih
    omega
/-- Where words stand. -/
theorem Sc.place {l : List UInt8} {a : Nat} {ws : List Wd} {r : Option (Int × Nat)} (h : Sc num l a ws r) : ∀ w ∈ ws, w.a ≤ a + l.length ∧ (w.k ≠ 3 → w.a < a + l.length) := by
  induction h with
  | done a => intro w hw; simp at hw; subst hw; exact ⟨Nat.le_refl _, fun h => absurd rfl h⟩
  | bad => intro w hw; simp at hw
  | gap l a n ws r hl ht _ ih =>
    intro w hw
    have h1 := tok_gap hl ht
    have := ih w hw
    rw [List.length_drop] at this
    exact ⟨by omega, fun h => by have := this.2 h; omega⟩
  | word l a n k v ws r hl ht _ ih =>
    intro w hw
    have h1 := tok_word hl ht
    rcases List.mem_cons.1 hw with rfl | hw
    · exact ⟨by show a ≤ _; omega, fun _ => by show a < _; omega⟩
    · have := ih w hw
      rw [List.length_drop] at this
      exact ⟨by omega, fun h => by have := this.2 h; omega⟩
/-- The last word alone is the end. -/
theorem Sc.ends {l : List UInt8} {a : Nat} {ws : List Wd} {r : Option (Int × Nat)} (h : Sc num l a ws r) (hr : r = none) : ∃ ws0 e, ws = ws0 ++ [e] ∧ e.k = 3 ∧ ∀ w ∈ ws0, w.k ≠ 3 := by
  induction h with
  | done a => exact ⟨[], _, rfl, rfl, by simp⟩
  | bad => cases hr
  | gap _ _ _ _ _ _ _ _ ih => exact ih hr
  | word l a n k v ws r hl ht _ ih =>
    obtain ⟨w0, e, h1, h2, h3⟩ := ih hr
    exact ⟨_ :: w0, e, by rw [h1]; rfl, h2, fun w hw => by
      rcases List.mem_cons.1 hw with rfl | hw
      · exact tok_kind ht
      · exact h3 w hw⟩
theorem end_alone {ws0 ts : List Wd} {e d : Wd} (h0 : ∀ w ∈ ws0, w.k ≠ 3) (h : (d :: ts) <:+ ws0 ++ [e]) (hd : d.k = 3) : ts = [] ∧ d = e := by
  obtain ⟨p, hp⟩ := h
  rcases List.eq_nil_or_concat ts with rfl | ⟨q, f, rfl⟩
  · have := List.append_inj' hp rfl
    simp at this
    exact ⟨rfl, this.2⟩
  · exfalso
    have h1 : (p ++ d :: q) ++ [f] = ws0 ++ [e] := by rw [← hp]; simp
    have h2 := (List.append_inj' h1 rfl).1
    exact h0 d (by rw [← h2]; simp) hd
end

theorem P.ne {o : Nat} {j : Job} {ts : List Wd} {r : Res} (h : P o j ts r) : ts ≠ [] := by
  induction h with
  | lstMore _ _ _ ih _ => exact ih
  | lstEnd _ _ ih => exact ih
  | lstBad _ ih => exact ih
  | expr _ _ ih _ => exact ih
  | exprBad _ ih => exact ih
  | _ => simp

/-- An error stands at a word; that of too many is not the end. -/
theorem P.at_word {o : Nat} {j : Job} {ts : List Wd} {r : Res} (h : P o j ts r) : (∀ k, j = .beh k → ∀ w t, ts = w :: t → w.k = 2) → (∀ c, j = .wth c → ∀ w t, ts = w :: t → w.k = 2) → (j = .giv → ∀ w t, ts = w :: t → w.k = 2) → ∀ c x, r = .bad c x → ∃ w ∈ ts, w.a = x ∧ (c = 2 → w.k ≠ 3) := by
  induction h with
  | num | tru | fls | behOk | wthOk | namVar | namElem | namCall | givNone | givSome | lstEnd | loopEnd => intro _ _ _ c x e; cases e
  | @neg o w ts r hs h ih => intro _ _ _; exact ih (by rintro k e w' t' e2; cases e2; exact hs.1) (by simp) (by simp)
  | @not o w ts r hs h ih => intro _ _ _; exact ih (by rintro k e w' t' e2; cases e2; exact hs.1) (by simp) (by simp)
  | @par o w ts r hs h ih => intro _ _ _; exact ih (by simp) (by rintro k e w' t' e2; cases e2; exact hs.1) (by simp)
  | @name o w ts r hs hk h ih => intro _ _ _; exact ih (by simp) (by simp) (by simp)
  | @stray o w ts h => rintro _ _ _ c x e; cases e; exact ⟨w, by simp, rfl, fun h => absurd h (by decide)⟩
  | @behLim o k w ts h => rintro hb _ _ c x e; cases e; exact ⟨w, by simp, rfl, fun _ => by rw [hb _ rfl _ _ rfl]; decide⟩
  | @wthLim o k w ts h => rintro _ hb _ c x e; cases e; exact ⟨w, by simp, rfl, fun _ => by rw [hb _ rfl _ _ rfl]; decide⟩
  | @givLim o w ts h => rintro _ _ hb c x e; cases e; exact ⟨w, by simp, rfl, fun _ => by rw [hb rfl _ _ rfl]; decide⟩
  | @behBad o k w ts e a ho h ih => 
    rintro _ _ _ c x e; cases e
    obtain ⟨v, hv, h1⟩ := ih (by simp) (by simp) (by simp) _ _ rfl
    exact ⟨v, List.mem_cons_of_mem _ hv, h1⟩
  | @wthBad o k w ts e a ho h ih => 
    rintro _ _ _ c x e; cases e
    obtain ⟨v, hv, h1⟩ := ih (by simp) (by simp) (by simp) _ _ rfl
    exact ⟨v, List.mem_cons_of_mem _ hv, h1⟩
  | @wthNo o c w d ts ts' e ho h hd ih =>
    rintro _ _ _ c x e; cases e
    exact ⟨d, List.mem_cons_of_mem _ (h.suf.subset (by simp)), rfl, fun h => absurd h (by decide)⟩
  | @namElemBad o w c ts e a hs h ih =>
    rintro _ _ _ c x e; cases e
    obtain ⟨v, hv, h1⟩ := ih (by simp) (by rintro k e w' t' e2; cases e2; exact hs.1) (by simp) _ _ rfl
    exact ⟨v, List.mem_cons_of_mem _ hv, h1⟩
  | @namCallBad o w c ts e a hs h ih =>
    rintro _ _ _ c x e; cases e
    obtain ⟨v, hv, h1⟩ := ih (by simp) (by simp) (by rintro e w' t' e2; cases e2; exact hs.1) _ _ rfl
    exact ⟨v, List.mem_cons_of_mem _ hv, h1⟩
  | @givNo o w d f ts ts' es ho hd h hf ih =>
    rintro _ _ _ c x e; cases e
    exact ⟨f, List.mem_cons_of_mem _ (h.sufL.subset (by simp)), rfl, fun h => absurd h (by decide)⟩
  | @givBad o w d ts e a ho hd h ih =>
    rintro _ _ _ c x e; cases e
    obtain ⟨v, hv, h1⟩ := ih (by simp) (by simp) (by simp) _ _ rfl
    exact ⟨v, List.mem_cons_of_mem _ hv, h1⟩
  | @lstMore o d ts ts' acc e r h hd h2 ih ih2 =>
    rintro _ _ _ c x e
    obtain ⟨v, hv, h1⟩ := ih2 (by simp) (by simp) (by simp) c x e
    exact ⟨v, ((List.suffix_cons _ _).trans h.suf).subset hv, h1⟩
  | @lstBad o ts acc e a h ih => rintro _ _ _ c x e; cases e; exact ih (by simp) (by simp) (by simp) _ _ rfl
  | @expr o r ts ts' l res h h2 ih ih2 =>
    rintro _ _ _ c x e
    obtain ⟨v, hv, h1⟩ := ih2 (by simp) (by simp) (by simp) c x e
    exact ⟨v, h.suf.subset hv, h1⟩
  | @exprBad o r ts e a h ih => rintro _ _ _ c x e; cases e; exact ih (by simp) (by simp) (by simp) _ _ rfl
  | @loopMore o r l e c ts ts' res hr h h2 ih ih2 =>
    rintro _ _ _ c x e
    obtain ⟨v, hv, h1⟩ := ih2 (by simp) (by simp) (by simp) c x e
    exact ⟨v, List.mem_cons_of_mem _ (h.suf.subset hv), h1⟩
  | @loopBad o r l c ts e a hr h ih =>
    rintro _ _ _ c x e; cases e
    obtain ⟨v, hv, h1⟩ := ih (by simp) (by simp) (by simp) _ _ rfl
    exact ⟨v, List.mem_cons_of_mem _ hv, h1⟩
/-- No thing begins with the end. -/
theorem P.begins {o : Nat} {j : Job} {ts : List Wd} {r : Res} (h : P o j ts r) : (j = .thing ∨ (∃ q, j = .expr q) ∨ ∃ acc, j = .list acc) → (∀ c a, r ≠ .bad c a) → ∀ w t, ts = w :: t → w.k ≠ 3 := by
  induction h with
  | num h => rintro _ _ w t e; cases e; rw [h]; decide
  | tru h _ | fls h _ => rintro _ _ w t e; cases e; rw [h]; decide
  | neg h _ _ | not h _ _ | par h _ _ => rintro _ _ w t e; cases e; exact h.ne
  | name h _ _ _ => rintro _ _ w t e; cases e; rw [h]; decide
  | stray | behLim | behBad | wthLim | wthNo | wthBad | namElemBad | namCallBad | givLim | givNo | givBad | lstBad | exprBad | loopBad => intro _ h; exact absurd rfl (h _ _)
  | behOk | wthOk | namVar | namElem | namCall | givNone | givSome | loopEnd | loopMore => intro h; rcases h with h | ⟨_, h⟩ | ⟨_, h⟩ <;> cases h
  | lstMore _ _ _ ih _ => intro _ _; exact ih (.inr (.inl ⟨_, rfl⟩)) (by intros; simp)
  | lstEnd _ _ ih => intro _ _; exact ih (.inr (.inl ⟨_, rfl⟩)) (by intros; simp)
  | expr _ _ ih _ => intro _ _; exact ih (.inl rfl) (by intros; simp)
end Go.Proofs.YtngfbpmabdmkeaaGreatDoor
namespace Go.Proofs.YtngfbpmabdmkeaaGreatDoor
open Go

/-- The same words, with Z in the end's place. -/
inductive Sw (Z : List Wd) : List Wd → List Wd → Prop
  | fin {e : Wd} : e.k = 3 → Sw Z [e] Z
  | cons {w w' : Wd} {ts ts' : List Wd} : w'.k = w.k → w'.t = w.t → w'.n = w.n → w.k ≠ 3 → Sw Z ts ts' → Sw Z (w :: ts) (w' :: ts')
/-- A word that ends an expression. -/
def Halt (d : Wd) : Prop := rkW d = 0 ∧ Shut d ∧ ¬ Sg d [44]
theorem sg_same {w w' : Wd} (h1 : w'.k = w.k) (h2 : w'.t = w.t) (t : List UInt8) : Sg w' t ↔ Sg w t := by unfold Sg; rw [h1, h2]
theorem rk_same {w w' : Wd} (h1 : w'.k = w.k) (h2 : w'.t = w.t) : rkW w' = rkW w := by unfold rkW; rw [h1, h2]

section
variable {d : Wd} {Z : List Wd}
/-- A word that isn't the end is there again. -/
theorem Sw.go {w : Wd} {ts ts2 : List Wd} (h : Sw (d :: Z) (w :: ts) ts2) (hw : w.k ≠ 3 ∨ ts ≠ []) : ∃ w' t2, ts2 = w' :: t2 ∧ w'.k = w.k ∧ w'.t = w.t ∧ w'.n = w.n ∧ Sw (d :: Z) ts t2 := by
  cases h with
  | fin h => rcases hw with hw | hw <;> exact absurd (by first | exact h | rfl) hw
  | cons h1 h2 h3 h4 h5 => exact ⟨_, _, rfl, h1, h2, h3, h5⟩
/-- What the next word isn't, it isn't here. -/
theorem Sw.next {w : Wd} {ts ts2 : List Wd} (h : Sw (d :: Z) (w :: ts) ts2) (hd : Halt d) : ∃ w' t2, ts2 = w' :: t2 ∧ (¬ Sg w [91] → ¬ Sg w' [91]) ∧ (¬ Sg w [40] → ¬ Sg w' [40]) ∧ (¬ Sg w [44] → ¬ Sg w' [44]) ∧ (rkW w' = rkW w ∨ rkW w' = 0) := by
  cases h with
  | fin h => exact ⟨d, Z, rfl, fun _ => hd.2.1.1, fun _ => hd.2.1.2, fun _ => hd.2.2, .inr hd.1⟩
  | cons h1 h2 h3 h4 h5 => exact ⟨_, _, rfl, fun h => by rwa [sg_same h1 h2], fun h => by rwa [sg_same h1 h2], fun h => by rwa [sg_same h1 h2], .inl (rk_same h1 h2)⟩

def SwOk (Z : List Wd) (o : Nat) (j : Job) (ts2 : List Wd) (e : Ex) (ts' : List Wd) : Prop := (∃ e' ts2', e'.eqv e = true ∧ Sw Z ts' ts2' ∧ P (o + 1) j ts2 (.ok e' ts2')) ∨ ∃ a, P (o + 1) j ts2 (.bad 2 a)
def SwOkL (Z : List Wd) (o : Nat) (j : Job) (ts2 : List Wd) (es : List Ex) (ts' : List Wd) : Prop := (∃ es' ts2', Ex.eqvL es' es = true ∧ Sw Z ts' ts2' ∧ P (o + 1) j ts2 (.okL es' ts2')) ∨ ∃ a, P (o + 1) j ts2 (.bad 2 a)
def SwPost (Z : List Wd) (o : Nat) : Job → List Wd → Res → Prop
  | .thing, ts2, .ok e ts' => SwOk Z o .thing ts2 e ts'
  | .beh k, ts2, .ok e ts' => SwOk Z o (.beh k) ts2 e ts'
  | .wth c, ts2, .ok e ts' => SwOk Z o (.wth c) ts2 e ts'
  | .nam, ts2, .ok e ts' => SwOk Z o .nam ts2 e ts'
  | .expr r, ts2, .ok e ts' => 1 ≤ r → SwOk Z o (.expr r) ts2 e ts'
  | .loop r l, ts2, .ok e ts' => 1 ≤ r → ∀ l', l'.eqv l = true → SwOk Z o (.loop r l') ts2 e ts'
  | .giv, ts2, .okL es ts' => SwOkL Z o .giv ts2 es ts'
  | .list acc, ts2, .okL es ts' => ∀ acc', Ex.eqvL acc' acc = true → SwOkL Z o (.list acc') ts2 es ts'
  | _, _, _ => True

theorem sw_any (hd : Halt d) {o : Nat} {j : Job} {ts : List Wd} {r : Res} (h : P o j ts r) : ∀ ts2, Sw (d :: Z) ts ts2 → SwPost (d :: Z) o j ts2 r := by
  induction h with
  | @num o w ts hk =>
    intro ts2 hs
    obtain ⟨w', t2, rfl, h1, h2, h3, h4⟩ := hs.go (.inl (by rw [hk]; decide))
    exact .inl ⟨_, _, by rw [h3]; exact eqv_mk rfl _ _, h4, .num (h1.trans hk)⟩
  | @tru o w ts hk ht =>
    intro ts2 hs
    obtain ⟨w', t2, rfl, h1, h2, h3, h4⟩ := hs.go (.inl (by rw [hk]; decide))
    exact .inl ⟨_, _, eqv_mk rfl _ _, h4, .tru (h1.trans hk) (h2.trans ht)⟩
  | @fls o w ts hk ht =>
    intro ts2 hs
    obtain ⟨w', t2, rfl, h1, h2, h3, h4⟩ := hs.go (.inl (by rw [hk]; decide))
    exact .inl ⟨_, _, eqv_mk rfl _ _, h4, .fls (h1.trans hk) (h2.trans ht)⟩
  | @neg o w ts r hs h ih =>
    intro ts2 hw
    have h5 := ih ts2 hw
    obtain ⟨w', t2, rfl, h1, h2, h3, h4⟩ := hw.go (.inl hs.ne)
    cases r with
    | okL | bad => trivial
    | ok e t =>
      rcases h5 with ⟨e', t3, k1, k2, k3⟩ | ⟨a, k⟩
      · exact .inl ⟨e', t3, k1, k2, .neg ((sg_same h1 h2 _).2 hs) k3⟩
      · exact .inr ⟨a, .neg ((sg_same h1 h2 _).2 hs) k⟩
  | @not o w ts r hs h ih =>
    intro ts2 hw
    have h5 := ih ts2 hw
    obtain ⟨w', t2, rfl, h1, h2, h3, h4⟩ := hw.go (.inl hs.ne)
    cases r with
    | okL | bad => trivial
    | ok e t =>
      rcases h5 with ⟨e', t3, k1, k2, k3⟩ | ⟨a, k⟩
      · exact .inl ⟨e', t3, k1, k2, .not ((sg_same h1 h2 _).2 hs) k3⟩
      · exact .inr ⟨a, .not ((sg_same h1 h2 _).2 hs) k⟩
  | @par o w ts r hs h ih =>
    intro ts2 hw
    have h5 := ih ts2 hw
    obtain ⟨w', t2, rfl, h1, h2, h3, h4⟩ := hw.go (.inl hs.ne)
    cases r with
    | okL | bad => trivial
    | ok e t =>
      rcases h5 with ⟨e', t3, k1, k2, k3⟩ | ⟨a, k⟩
      · exact .inl ⟨e', t3, k1, k2, .par ((sg_same h1 h2 _).2 hs) k3⟩
      · exact .inr ⟨a, .par ((sg_same h1 h2 _).2 hs) k⟩
  | @name o w ts r hs hk h ih =>
    intro ts2 hw
    have h5 := ih ts2 hw
    obtain ⟨w', t2, rfl, h1, h2, h3, h4⟩ := hw.go (.inl (by rw [hs]; decide))
    cases r with
    | okL | bad => trivial
    | ok e t =>
      rcases h5 with ⟨e', t3, k1, k2, k3⟩ | ⟨a, k⟩
      · exact .inl ⟨e', t3, k1, k2, .name (h1.trans hs) (by rw [h2]; exact hk) k3⟩
      · exact .inr ⟨a, .name (h1.trans hs) (by rw [h2]; exact hk) k⟩
  | stray | behLim | behBad | wthLim | wthNo | wthBad | namElemBad | namCallBad | givLim | givNo | givBad | lstBad | exprBad | loopBad => intros; trivial
  | @behOk o k w ts ts' e ho h ih =>
    intro ts2 hw
    obtain ⟨w', t2, rfl, h1, h2, h3, h4⟩ := hw.go (.inr h.ne)
    by_cases h32 : o + 1 = 32
    · exact .inr ⟨_, .behLim h32⟩
    rcases ih t2 h4 with ⟨e', t3, k1, k2, k3⟩ | ⟨a, k⟩
    · exact .inl ⟨_, t3, eqv_mk (eqvL_one k1) _ _, k2, .behOk (by omega) k3⟩
    · exact .inr ⟨a, .behBad (by omega) k⟩
  | @wthOk o c w f ts ts' e ho h hf ih =>
    intro ts2 hw
    obtain ⟨w', t2, rfl, h1, h2, h3, h4⟩ := hw.go (.inr h.ne)
    by_cases h32 : o + 1 = 32
    · exact .inr ⟨_, .wthLim h32⟩
    rcases ih t2 h4 (Int.le_refl _) with ⟨e', t3, k1, k2, k3⟩ | ⟨a, k⟩
    · obtain ⟨f', t4, rfl, g1, g2, g3, g4⟩ := k2.go (.inl hf.ne)
      exact .inl ⟨_, t4, k1, g4, .wthOk (by omega) k3 ((sg_same g1 g2 _).2 hf)⟩
    · exact .inr ⟨a, .wthBad (by omega) k⟩
  | @namVar o w c ts n1 n2 =>
    intro ts2 hw
    obtain ⟨w', t2, rfl, h1, h2, h3, h4⟩ := hw.go (.inr (by simp))
    obtain ⟨c', t3, rfl, g1, g2, -, -⟩ := h4.next hd
    exact .inl ⟨_, _, by rw [h2]; exact eqv_mk rfl _ _, h4, .namVar (g1 n1) (g2 n2)⟩
  | @namElem o w c ts ts' e hs h ih =>
    intro ts2 hw
    obtain ⟨w', t2, rfl, h1, h2, h3, h4⟩ := hw.go (.inr (by simp))
    have h5 := ih t2 h4
    obtain ⟨c', t3, rfl, g1, g2, g3, g4⟩ := h4.go (.inl hs.ne)
    rcases h5 with ⟨e', t3, k1, k2, k3⟩ | ⟨a, k⟩
    · exact .inl ⟨_, t3, by rw [h2]; exact eqv_mk (eqvL_one k1) _ _, k2, .namElem ((sg_same g1 g2 _).2 hs) k3⟩
    · exact .inr ⟨a, .namElemBad ((sg_same g1 g2 _).2 hs) k⟩
  | @namCall o w c ts ts' es hs h ih =>
    intro ts2 hw
    obtain ⟨w', t2, rfl, h1, h2, h3, h4⟩ := hw.go (.inr (by simp))
    have h5 := ih t2 h4
    obtain ⟨c', t3, rfl, g1, g2, g3, g4⟩ := h4.go (.inl hs.ne)
    rcases h5 with ⟨e', t3, k1, k2, k3⟩ | ⟨a, k⟩
    · exact .inl ⟨_, t3, by rw [h2]; exact eqv_mk k1 _ _, k2, .namCall ((sg_same g1 g2 _).2 hs) k3⟩
    · exact .inr ⟨a, .namCallBad ((sg_same g1 g2 _).2 hs) k⟩
  | @givNone o w f ts ho hf =>
    intro ts2 hw
    obtain ⟨w', t2, rfl, h1, h2, h3, h4⟩ := hw.go (.inr (by simp))
    obtain ⟨f', t3, rfl, g1, g2, g3, g4⟩ := h4.go (.inl hf.ne)
    by_cases h32 : o + 1 = 32
    · exact .inr ⟨_, .givLim h32⟩
    exact .inl ⟨_, _, rfl, g4, .givNone (by omega) ((sg_same g1 g2 _).2 hf)⟩
  | @givSome o w x f ts ts' es ho hx h hf ih =>
    intro ts2 hw
    obtain ⟨w', t2, rfl, h1, h2, h3, h4⟩ := hw.go (.inr (by simp))
    by_cases h32 : o + 1 = 32
    · exact .inr ⟨_, .givLim h32⟩
    have h5 := ih t2 h4 [] rfl
    have hx2 : ∃ x' t3, t2 = x' :: t3 ∧ ¬ Sg x' [41] := by
      by_cases hx3 : x.k ≠ 3 ∨ ts ≠ []
      · obtain ⟨x', t3, rfl, g1, g2, g3, g4⟩ := h4.go hx3
        exact ⟨x', t3, rfl, fun e => hx ((sg_same g1 g2 _).1 e)⟩
      · exfalso
        have hx4 : x.k = 3 := Decidable.of_not_not fun e => hx3 (.inl e)
        exact h.begins (.inr (.inr ⟨_, rfl⟩)) (by intros; simp) _ _ rfl hx4
    obtain ⟨x', t3, rfl, hx'⟩ := hx2
    rcases h5 with ⟨es', t4, k1, k2, k3⟩ | ⟨a, k⟩
    · obtain ⟨f', t5, rfl, g1, g2, g3, g4⟩ := k2.go (.inl hf.ne)
      exact .inl ⟨es', t5, k1, g4, .givSome (by omega) hx' k3 ((sg_same g1 g2 _).2 hf)⟩
    · exact .inr ⟨a, .givBad (by omega) hx' k⟩
  | @lstMore o x ts ts' acc e r h hx h2 ih ih2 =>
    intro ts2 hw
    cases r with
    | ok | bad => trivial
    | okL es t =>
      intro acc' hacc
      rcases ih ts2 hw (Int.le_refl _) with ⟨e', t3, k1, k2, k3⟩ | ⟨a, k⟩
      · obtain ⟨x', t4, rfl, g1, g2, g3, g4⟩ := k2.go (.inl hx.ne)
        rcases ih2 t4 g4 (acc' ++ [e']) (eqvL_append hacc (eqvL_one k1)) with ⟨es', t5, m1, m2, m3⟩ | ⟨a, k⟩
        · exact .inl ⟨es', t5, m1, m2, .lstMore k3 ((sg_same g1 g2 _).2 hx) m3⟩
        · exact .inr ⟨a, .lstMore k3 ((sg_same g1 g2 _).2 hx) k⟩
      · exact .inr ⟨a, .lstBad k⟩
  | @lstEnd o x ts ts' acc e h hx ih =>
    intro ts2 hw acc' hacc
    rcases ih ts2 hw (Int.le_refl _) with ⟨e', t3, k1, k2, k3⟩ | ⟨a, k⟩
    · obtain ⟨x', t4, rfl, -, -, g3, -⟩ := k2.next hd
      exact .inl ⟨_, _, eqvL_append hacc (eqvL_one k1), k2, .lstEnd k3 (g3 hx)⟩
    · exact .inr ⟨a, .lstBad k⟩
  | @expr o r ts ts' l res h h2 ih ih2 =>
    intro ts2 hw
    cases res with
    | okL | bad => trivial
    | ok e t =>
      intro hr
      rcases ih ts2 hw with ⟨l', t3, k1, k2, k3⟩ | ⟨a, k⟩
      · rcases ih2 t3 k2 hr l' k1 with ⟨e', t5, m1, m2, m3⟩ | ⟨a, k⟩
        · exact .inl ⟨e', t5, m1, m2, .expr k3 m3⟩
        · exact .inr ⟨a, .expr k3 k⟩
      · exact .inr ⟨a, .exprBad k⟩
  | @loopEnd o r l c ts hr =>
    intro ts2 hw h1 l' hl
    obtain ⟨c', t3, rfl, -, -, -, g4⟩ := hw.next hd
    exact .inl ⟨l', _, hl, hw, .loopEnd (by omega)⟩
  | @loopMore o r l e c ts ts' res hr h h2 ih ih2 =>
    intro ts2 hw
    cases res with
    | okL | bad => trivial
    | ok x t =>
      intro h1 l' hl
      have hc := rkW_ne (w := c) (by omega)
      obtain ⟨c', t2, rfl, g1, g2, g3, g4⟩ := hw.go (.inl (by rw [hc.1]; decide))
      have hrk := rk_same g1 g2
      rcases ih t2 g4 (by omega) with ⟨e', t3, k1, k2, k3⟩ | ⟨a, k⟩
      · rw [← hrk] at k3
        rcases ih2 t3 k2 h1 (.mk 6 (opB c'.t) 0 [] [l', e'] l'.a) (by rw [g2]; exact eqv_mk (eqvL_two hl k1) _ _) with ⟨x', t5, m1, m2, m3⟩ | ⟨a, k⟩
        · exact .inl ⟨x', t5, m1, m2, .loopMore (by omega) k3 m3⟩
        · exact .inr ⟨a, .loopMore (by omega) k3 k⟩
      · rw [← hrk] at k
        exact .inr ⟨a, .loopBad (by omega) k⟩
end

/-- Words, and what stands in the end's place. -/
theorem sw_make (Z : List Wd) (f : Wd → Wd) (hf : ∀ w, (f w).k = w.k ∧ (f w).t = w.t ∧ (f w).n = w.n) {e : Wd} (he : e.k = 3) : ∀ ws0 : List Wd, (∀ w ∈ ws0, w.k ≠ 3) → Sw Z (ws0 ++ [e]) (ws0.map f ++ Z)
  | [], _ => .fin he
  | w :: r, h => .cons (hf w).1 (hf w).2.1 (hf w).2.2 (h w (by simp)) (sw_make Z f hf he r fun w hw => h w (List.mem_cons_of_mem _ hw))
theorem Sw.fin_inv {Z : List Wd} {e : Wd} {ts : List Wd} (h : Sw Z [e] ts) (he : e.k = 3) : ts = Z := by
  cases h with
  | fin => rfl
  | cons _ _ _ h => exact absurd he h
end Go.Proofs.YtngfbpmabdmkeaaGreatDoor
namespace Go.Proofs.YtngfbpmabdmkeaaGreatDoor
open Go

section
variable {num : List UInt8 → Option Int}

/-- A text that is one thing, where o are open; or in which too many are open. -/
def Dp (num : List UInt8 → Option Int) (o : Nat) (g : Bool) (t : List UInt8) : Prop := (∃ h t', t = h :: t' ∧ h ≠ 61) ∧
  ∀ (tl : List UInt8) (a : Nat) (ws : List Wd), Stop tl → Sc num tl (a + t.length) ws none → ∃ wx, Sc num (t ++ tl) a (wx ++ ws) none ∧ (∃ d q, wx = d :: q ∧ ¬ Sg d [41]) ∧
    ∀ c ts, rkW c = 0 → Shut c → if g then (∃ x, x.txt ≠ [] ∧ P o .thing (wx ++ c :: ts) (.ok x (c :: ts))) else ∃ b, P o .thing (wx ++ c :: ts) (.bad 2 b)
/-- How an inner text stands to the outer one. -/
def In (o o' : Nat) (g g' : Bool) : Prop := (o < 32 ∧ o' = o + 1 ∧ g' = g) ∨ (o = 32 ∧ g' = false)

theorem nm_x : ∀ c : UInt8, c ∈ [(97 : UInt8), 102, 120] → NameB [c] := by
  intro c hc
  refine ⟨c, [], rfl, ?_, by simp, by simp, ?_⟩ <;> (simp only [List.mem_cons, List.not_mem_nil, or_false] at hc; rcases hc with rfl | rfl | rfl <;> decide)

theorem dp_x (o : Nat) : Dp num o true [120] := by
  refine ⟨⟨120, [], rfl, by decide⟩, fun tl a ws ht hs => ?_⟩
  refine ⟨[⟨0, [120], 0, a⟩], Sc.push (p := [120]) (by simp) (tok_name (nm_x 120 (by decide)) ht) hs, ⟨_, _, rfl, fun e => absurd (show (0 : Int) = 2 from e.1) (by decide)⟩, fun c ts _ hc => ?_⟩
  exact ⟨.mk 2 0 0 [120] [] a, by rw [txt_var]; simp, .name rfl (show keyB [120] = false by decide) (.namVar hc.1 hc.2)⟩

theorem dp_par {o o' : Nat} {g g' : Bool} {t : List UInt8} (h : Dp num o' g t) (hi : In o o' g g') : Dp num o g' (40 :: (t ++ [41])) := by
  refine ⟨⟨40, _, rfl, by decide⟩, fun tl a ws ht hs => ?_⟩
  simp only [List.length_cons, List.length_append, List.length_nil] at hs
  obtain ⟨wx, h1, -, h2⟩ := h.2 (41 :: tl) (a + 1) (⟨2, [41], 0, a + 1 + t.length⟩ :: ws) (.cons (by decide) _) (Sc.one (by decide) (by
    have e : a + 1 + t.length + 1 = a + (t.length + (0 + 1) + 1) := by omega
    rw [e]; exact hs))
  refine ⟨⟨2, [40], 0, a⟩ :: (wx ++ [⟨2, [41], 0, a + 1 + t.length⟩]), ?_, ⟨_, _, rfl, fun e => absurd (show ([40] : List UInt8) = [41] from e.2) (by decide)⟩, fun c ts hc hs2 => ?_⟩
  · have h3 := Sc.one (num := num) (c := 40) (by decide) h1
    simpa [List.append_assoc] using h3
  · have e7 : (⟨2, [40], 0, a⟩ :: (wx ++ [⟨2, [41], 0, a + 1 + t.length⟩]) : List Wd) ++ c :: ts = ⟨2, [40], 0, a⟩ :: (wx ++ ⟨2, [41], 0, a + 1 + t.length⟩ :: c :: ts) := by simp
    rw [e7]
    have h4 := h2 ⟨2, [41], 0, a + 1 + t.length⟩ (c :: ts) (rk_rb _ _) (shut_of (by decide) (by decide) _ _)
    rcases hi with ⟨ho, rfl, rfl⟩ | ⟨rfl, rfl⟩
    · cases g' with
      | true =>
        obtain ⟨x, hx, hp⟩ := h4
        exact ⟨x, hx, .par (sg_of _ _ _) (.wthOk ho (.expr hp (.loopEnd (by rw [rk_rb]; decide))) (sg_of _ _ _))⟩
      | false =>
        obtain ⟨b, hp⟩ := h4
        exact ⟨b, .par (sg_of _ _ _) (.wthBad ho (.exprBad hp))⟩
    · exact ⟨_, .par (sg_of _ _ _) (.wthLim rfl)⟩
theorem dp_neg {o o' : Nat} {g g' : Bool} {t : List UInt8} (h : Dp num o' g t) (hi : In o o' g g') : Dp num o g' (45 :: t) := by
  refine ⟨⟨45, _, rfl, by decide⟩, fun tl a ws ht hs => ?_⟩
  obtain ⟨wx, h1, -, h2⟩ := h.2 tl (a + 1) ws ht (by rw [List.length_cons] at hs; rw [Nat.add_assoc, Nat.add_comm 1]; exact hs)
  refine ⟨⟨2, [45], 0, a⟩ :: wx, Sc.one (by decide) h1, ⟨_, _, rfl, fun e => absurd (show ([45] : List UInt8) = [41] from e.2) (by decide)⟩, fun c ts hc hs2 => ?_⟩
  have h4 := h2 c ts hc hs2
  rcases hi with ⟨ho, rfl, rfl⟩ | ⟨rfl, rfl⟩
  · cases g' with
    | true =>
      obtain ⟨x, hx, hp⟩ := h4
      exact ⟨.mk 4 0 0 [] [x] a, by rw [txt_neg]; simp, .neg (sg_of _ _ _) (.behOk ho hp)⟩
    | false =>
      obtain ⟨b, hp⟩ := h4
      exact ⟨b, .neg (sg_of _ _ _) (.behBad ho hp)⟩
  · exact ⟨_, .neg (sg_of _ _ _) (.behLim rfl)⟩
theorem dp_not {o o' : Nat} {g g' : Bool} {t : List UInt8} (h : Dp num o' g t) (hi : In o o' g g') : Dp num o g' (33 :: t) := by
  refine ⟨⟨33, _, rfl, by decide⟩, fun tl a ws ht hs => ?_⟩
  obtain ⟨wx, h1, -, h2⟩ := h.2 tl (a + 1) ws ht (by rw [List.length_cons] at hs; rw [Nat.add_assoc, Nat.add_comm 1]; exact hs)
  obtain ⟨y, t', ey, hy⟩ := h.1
  refine ⟨⟨2, [33], 0, a⟩ :: wx, Sc.push (p := [33]) (by simp) (tok_bang (by rw [ey]; rintro r e; cases e; exact hy rfl)) h1, ⟨_, _, rfl, fun e => absurd (show ([33] : List UInt8) = [41] from e.2) (by decide)⟩, fun c ts hc hs2 => ?_⟩
  have h4 := h2 c ts hc hs2
  rcases hi with ⟨ho, rfl, rfl⟩ | ⟨rfl, rfl⟩
  · cases g' with
    | true =>
      obtain ⟨x, hx, hp⟩ := h4
      exact ⟨.mk 5 0 0 [] [x] a, by rw [txt_not]; simp, .not (sg_of _ _ _) (.behOk ho hp)⟩
    | false =>
      obtain ⟨b, hp⟩ := h4
      exact ⟨b, .not (sg_of _ _ _) (.behBad ho hp)⟩
  · exact ⟨_, .not (sg_of _ _ _) (.behLim rfl)⟩
theorem dp_elem {o o' : Nat} {g g' : Bool} {t : List UInt8} (h : Dp num o' g t) (hi : In o o' g g') : Dp num o g' (97 :: 91 :: (t ++ [93])) := by
  refine ⟨⟨97, _, rfl, by decide⟩, fun tl a ws ht hs => ?_⟩
  simp only [List.length_cons, List.length_append, List.length_nil] at hs
  obtain ⟨wx, h1, -, h2⟩ := h.2 (93 :: tl) (a + 1 + 1) (⟨2, [93], 0, a + 1 + 1 + t.length⟩ :: ws) (.cons (by decide) _) (Sc.one (by decide) (by
    have e : a + 1 + 1 + t.length + 1 = a + (t.length + (0 + 1) + 1 + 1) := by omega
    rw [e]; exact hs))
  refine ⟨⟨0, [97], 0, a⟩ :: ⟨2, [91], 0, a + 1⟩ :: (wx ++ [⟨2, [93], 0, a + 1 + 1 + t.length⟩]), ?_, ⟨_, _, rfl, fun e => absurd (show (0 : Int) = 2 from e.1) (by decide)⟩, fun c ts hc hs2 => ?_⟩
  · have h3 := Sc.push (num := num) (p := [97]) (by simp) (tok_name (nm_x 97 (by decide)) (.cons (by decide) _)) (Sc.one (c := 91) (by decide) h1)
    simpa [List.append_assoc] using h3
  · have e7 : (⟨0, [97], 0, a⟩ :: ⟨2, [91], 0, a + 1⟩ :: (wx ++ [⟨2, [93], 0, a + 1 + 1 + t.length⟩]) : List Wd) ++ c :: ts = ⟨0, [97], 0, a⟩ :: ⟨2, [91], 0, a + 1⟩ :: (wx ++ ⟨2, [93], 0, a + 1 + 1 + t.length⟩ :: c :: ts) := by simp
    rw [e7]
    have hk : keyB [97] = false := by decide
    have h4 := h2 ⟨2, [93], 0, a + 1 + 1 + t.length⟩ (c :: ts) (rk_sb _ _) (shut_of (by decide) (by decide) _ _)
    rcases hi with ⟨ho, rfl, rfl⟩ | ⟨rfl, rfl⟩
    · cases g' with
      | true =>
        obtain ⟨x, hx, hp⟩ := h4
        exact ⟨.mk 3 0 0 [97] [x] a, by rw [txt_elem]; simp, .name rfl hk (.namElem (sg_of _ _ _) (.wthOk ho (.expr hp (.loopEnd (by rw [rk_sb]; decide))) (sg_of _ _ _)))⟩
      | false =>
        obtain ⟨b, hp⟩ := h4
        exact ⟨b, .name rfl hk (.namElemBad (sg_of _ _ _) (.wthBad ho (.exprBad hp)))⟩
    · exact ⟨_, .name rfl hk (.namElemBad (sg_of _ _ _) (.wthLim rfl))⟩
theorem dp_call {o o' : Nat} {g g' : Bool} {t : List UInt8} (h : Dp num o' g t) (hi : In o o' g g') : Dp num o g' (102 :: 40 :: (t ++ [41])) := by
  refine ⟨⟨102, _, rfl, by decide⟩, fun tl a ws ht hs => ?_⟩
  simp only [List.length_cons, List.length_append, List.length_nil] at hs
  obtain ⟨wx, h1, ⟨d, q, rfl, hd⟩, h2⟩ := h.2 (41 :: tl) (a + 1 + 1) (⟨2, [41], 0, a + 1 + 1 + t.length⟩ :: ws) (.cons (by decide) _) (Sc.one (by decide) (by
    have e : a + 1 + 1 + t.length + 1 = a + (t.length + (0 + 1) + 1 + 1) := by omega
    rw [e]; exact hs))
  refine ⟨⟨0, [102], 0, a⟩ :: ⟨2, [40], 0, a + 1⟩ :: (d :: q ++ [⟨2, [41], 0, a + 1 + 1 + t.length⟩]), ?_, ⟨_, _, rfl, fun e => absurd (show (0 : Int) = 2 from e.1) (by decide)⟩, fun c ts hc hs2 => ?_⟩
  · have h3 := Sc.push (num := num) (p := [102]) (by simp) (tok_name (nm_x 102 (by decide)) (.cons (by decide) _)) (Sc.one (c := 40) (by decide) h1)
    simpa [List.append_assoc] using h3
  · have e7 : (⟨0, [102], 0, a⟩ :: ⟨2, [40], 0, a + 1⟩ :: (d :: q ++ [⟨2, [41], 0, a + 1 + 1 + t.length⟩]) : List Wd) ++ c :: ts = ⟨0, [102], 0, a⟩ :: ⟨2, [40], 0, a + 1⟩ :: d :: (q ++ ⟨2, [41], 0, a + 1 + 1 + t.length⟩ :: c :: ts) := by simp
    rw [e7]
    have hk : keyB [102] = false := by decide
    have h4 := h2 ⟨2, [41], 0, a + 1 + 1 + t.length⟩ (c :: ts) (rk_rb _ _) (shut_of (by decide) (by decide) _ _)
    rw [List.cons_append] at h4
    rcases hi with ⟨ho, rfl, rfl⟩ | ⟨rfl, rfl⟩
    · cases g' with
      | true =>
        obtain ⟨x, hx, hp⟩ := h4
        exact ⟨.mk 7 0 0 [102] [x] a, by rw [txt_call]; simp, .name rfl hk (.namCall (sg_of _ _ _) (.givSome ho hd (.lstEnd (.expr hp (.loopEnd (by rw [rk_rb]; decide))) (fun e => absurd (show ([41] : List UInt8) = [44] from e.2) (by decide))) (sg_of _ _ _)))⟩
      | false =>
        obtain ⟨b, hp⟩ := h4
        exact ⟨b, .name rfl hk (.namCallBad (sg_of _ _ _) (.givBad ho hd (.lstBad (.exprBad hp))))⟩
    · exact ⟨_, .name rfl hk (.namCallBad (sg_of _ _ _) (.givLim rfl))⟩
theorem dp_more (hnum : num [49] = some 1) {o o' : Nat} {g g' : Bool} {t : List UInt8} (h : Dp num o' g t) (hi : In o o' g g') : Dp num o g' (102 :: 40 :: 49 :: 44 :: 32 :: (t ++ [41])) := by
  refine ⟨⟨102, _, rfl, by decide⟩, fun tl a ws ht hs => ?_⟩
  simp only [List.length_cons, List.length_append, List.length_nil] at hs
  obtain ⟨wx, h1, -, h2⟩ := h.2 (41 :: tl) (a + 1 + 1 + 1 + 1 + 1) (⟨2, [41], 0, a + 1 + 1 + 1 + 1 + 1 + t.length⟩ :: ws) (.cons (by decide) _) (Sc.one (by decide) (by
    have e : a + 1 + 1 + 1 + 1 + 1 + t.length + 1 = a + (t.length + (0 + 1) + 1 + 1 + 1 + 1 + 1) := by omega
    rw [e]; exact hs))
  have e1 : Lib.itoa 1 = [49] := by simp [Lib.itoa, Lib.decDigits]
  refine ⟨⟨0, [102], 0, a⟩ :: ⟨2, [40], 0, a + 1⟩ :: ⟨1, [49], 1, a + 1 + 1⟩ :: ⟨2, [44], 0, a + 1 + 1 + 1⟩ :: (wx ++ [⟨2, [41], 0, a + 1 + 1 + 1 + 1 + 1 + t.length⟩]), ?_, ⟨_, _, rfl, fun e => absurd (show (0 : Int) = 2 from e.1) (by decide)⟩, fun c ts hc hs2 => ?_⟩
  · have h2 := tok_num (num := num) (n := 1) (by decide) (by rw [e1]; exact hnum) (tl := 44 :: 32 :: (t ++ 41 :: tl)) (.cons (by decide) _)
    rw [e1] at h2
    have h3 := Sc.push (num := num) (p := [102]) (by simp) (tok_name (nm_x 102 (by decide)) (.cons (by decide) _)) (Sc.one (c := 40) (by decide) (Sc.push (p := [49]) (by simp) h2 (Sc.one (c := 44) (by decide) (Sc.space h1))))
    simpa [List.append_assoc] using h3
  · have e7 : (⟨0, [102], 0, a⟩ :: ⟨2, [40], 0, a + 1⟩ :: ⟨1, [49], 1, a + 1 + 1⟩ :: ⟨2, [44], 0, a + 1 + 1 + 1⟩ :: (wx ++ [⟨2, [41], 0, a + 1 + 1 + 1 + 1 + 1 + t.length⟩]) : List Wd) ++ c :: ts = ⟨0, [102], 0, a⟩ :: ⟨2, [40], 0, a + 1⟩ :: ⟨1, [49], 1, a + 1 + 1⟩ :: ⟨2, [44], 0, a + 1 + 1 + 1⟩ :: (wx ++ ⟨2, [41], 0, a + 1 + 1 + 1 + 1 + 1 + t.length⟩ :: c :: ts) := by simp
    rw [e7]
    have hk : keyB [102] = false := by decide
    have hd : ¬ Sg ⟨1, [49], 1, a + 1 + 1⟩ [41] := fun e => absurd (show (1 : Int) = 2 from e.1) (by decide)
    have h4 := h2 ⟨2, [41], 0, a + 1 + 1 + 1 + 1 + 1 + t.length⟩ (c :: ts) (rk_rb _ _) (shut_of (by decide) (by decide) _ _)
    have h5 : ∀ ts', P (o + 1) (.expr 1) (⟨1, [49], 1, a + 1 + 1⟩ :: ⟨2, [44], 0, a + 1 + 1 + 1⟩ :: ts') (.ok (.mk 0 0 1 [] [] (a + 1 + 1)) (⟨2, [44], 0, a + 1 + 1 + 1⟩ :: ts')) := fun ts' =>
      .expr (.num rfl) (.loopEnd (by rw [rk_cm]; decide))
    rcases hi with ⟨ho, rfl, rfl⟩ | ⟨rfl, rfl⟩
    · cases g' with
      | true =>
        obtain ⟨x, hx, hp⟩ := h4
        exact ⟨.mk 7 0 0 [102] [.mk 0 0 1 [] [] (a + 1 + 1), x] a, by rw [txt_call]; simp, .name rfl hk (.namCall (sg_of _ _ _) (.givSome ho hd (.lstMore (h5 _) (sg_of _ _ _) (.lstEnd (acc := [] ++ [_]) (.expr hp (.loopEnd (by rw [rk_rb]; decide))) (fun e => absurd (show ([41] : List UInt8) = [44] from e.2) (by decide)))) (sg_of _ _ _)))⟩
      | false =>
        obtain ⟨b, hp⟩ := h4
        exact ⟨b, .name rfl hk (.namCallBad (sg_of _ _ _) (.givBad ho hd (.lstMore (h5 _) (sg_of _ _ _) (.lstBad (.exprBad hp)))))⟩
    · exact ⟨_, .name rfl hk (.namCallBad (sg_of _ _ _) (.givLim rfl))⟩
end

/-- What opens, what closes, how many each opens. -/
def opB' : Nat → List UInt8 | 0 => [40] | 1 => [45] | 2 => [33] | 3 => [97, 91] | 4 => [102, 40] | 5 => [102, 40, 49, 44, 32] | _ => [33, 40]
def shB' : Nat → List UInt8 | 0 => [41] | 1 => [] | 2 => [] | 3 => [93] | 4 => [41] | 5 => [41] | _ => [41]
def each' (k : Nat) : Nat := if k = 6 then 2 else 1
def dpT (k : Nat) : Nat → List UInt8
  | 0 => [120]
  | m + 1 => opB' k ++ dpT k m ++ shB' k
theorem in_of {o m : Nat} (ho : o ≤ 32) : In o (if o < 32 then o + 1 else 0) (decide ((if o < 32 then o + 1 else 0) + m ≤ 32)) (decide (o + (m + 1) ≤ 32)) := by
  by_cases h : o < 32
  · rw [if_pos h]
    refine .inl ⟨h, rfl, ?_⟩
    rw [decide_eq_decide]
    omega
  · refine .inr ⟨by omega, ?_⟩
    simp
    omega
theorem dp_all {num : List UInt8 → Option Int} (hnum : num [49] = some 1) {k : Nat} (hk : k < 7) : ∀ m o, o ≤ 32 → Dp num o (decide (o + m * each' k ≤ 32)) (dpT k m)
  | 0, o, ho => by
    have : decide (o + 0 * each' k ≤ 32) = true := by simp; omega
    rw [this]
    exact dp_x o
  | m + 1, o, ho => by
    have ih := dp_all hnum hk m
    match k, hk with
    | 0, _ => simpa [dpT, opB', shB', each'] using dp_par (by simpa [each'] using ih (if o < 32 then o + 1 else 0) (by split <;> omega)) (in_of (m := m) ho)
    | 1, _ => simpa [dpT, opB', shB', each'] using dp_neg (by simpa [each'] using ih (if o < 32 then o + 1 else 0) (by split <;> omega)) (in_of (m := m) ho)
    | 2, _ => simpa [dpT, opB', shB', each'] using dp_not (by simpa [each'] using ih (if o < 32 then o + 1 else 0) (by split <;> omega)) (in_of (m := m) ho)
    | 3, _ => simpa [dpT, opB', shB', each'] using dp_elem (by simpa [each'] using ih (if o < 32 then o + 1 else 0) (by split <;> omega)) (in_of (m := m) ho)
    | 4, _ => simpa [dpT, opB', shB', each'] using dp_call (by simpa [each'] using ih (if o < 32 then o + 1 else 0) (by split <;> omega)) (in_of (m := m) ho)
    | 5, _ => simpa [dpT, opB', shB', each'] using dp_more hnum (by simpa [each'] using ih (if o < 32 then o + 1 else 0) (by split <;> omega)) (in_of (m := m) ho)
    | 6, _ =>
      have e6 : each' 6 = 2 := rfl
      rw [e6] at ih ⊢
      have h1 : ∀ o', o' ≤ 32 → Dp num o' (decide (o' + (m * 2 + 1) ≤ 32)) (40 :: (dpT 6 m ++ [41])) := fun o' ho' => dp_par (ih (if o' < 32 then o' + 1 else 0) (by split <;> omega)) (in_of (m := m * 2) ho')
      have h2 := dp_not (h1 (if o < 32 then o + 1 else 0) (by split <;> omega)) (in_of (m := m * 2 + 1) ho)
      have e7 : (m + 1) * 2 = m * 2 + 1 + 1 := by omega
      rw [e7]
      simpa [dpT, opB', shB'] using h2
    | k + 7, h => exact absurd h (by omega)
end Go.Proofs.YtngfbpmabdmkeaaGreatDoor
