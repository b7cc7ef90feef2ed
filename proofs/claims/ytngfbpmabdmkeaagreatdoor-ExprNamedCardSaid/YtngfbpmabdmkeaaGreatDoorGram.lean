/- Expressions, as plain mathematics: with what a row of words begins, in the order in which the words stand. -/
import Derived.Test.YtngfbpmabdmkeaaGreatDoorTokAt
import Derived.Test.YtngfbpmabdmkeaaGreatDoorOps
namespace Go.Proofs.YtngfbpmabdmkeaaGreatDoor

/-- An expression: kind, operator, number, name, kids, place. -/
inductive Ex where
  | mk (k op n : Int) (nm : List UInt8) (ks : List Ex) (a : Nat)
def Ex.k : Ex → Int | .mk k _ _ _ _ _ => k
def Ex.op : Ex → Int | .mk _ o _ _ _ _ => o
def Ex.n : Ex → Int | .mk _ _ n _ _ _ => n
def Ex.nm : Ex → List UInt8 | .mk _ _ _ t _ _ => t
def Ex.ks : Ex → List Ex | .mk _ _ _ _ l _ => l
def Ex.a : Ex → Nat | .mk _ _ _ _ _ a => a

def Sg (w : Wd) (t : List UInt8) : Prop := w.k = 2 ∧ w.t = t
/-- How strongly a word binds as an operator; 0: it is none. -/
def rkW (w : Wd) : Int := if w.k = 2 then rnkZ (opB w.t) else 0
def truB : List UInt8 := [116, 114, 117, 101]
def flsB : List UInt8 := [102, 97, 108, 115, 101]
/-- A word with which no thing begins. -/
def Stray (w : Wd) : Prop := w.k ≠ 1 ∧ (w.k = 0 → keyB w.t = true ∧ w.t ≠ truB ∧ w.t ≠ flsB) ∧ (w.k = 2 → w.t ≠ [45] ∧ w.t ≠ [33] ∧ w.t ≠ [40])

inductive Job where
  | thing
  | beh (k : Int)
  | wth (c : List UInt8)
  | nam
  | giv
  | expr (r : Int)
  | loop (r : Int) (l : Ex)
  | list (acc : List Ex)
inductive Res where
  | ok (e : Ex) (ts : List Wd)
  | okL (es : List Ex) (ts : List Wd)
  | bad (e : Int) (a : Nat)

/-- 'P o j ts r': with o open, the job j at the words ts comes to r. -/
inductive P : Nat → Job → List Wd → Res → Prop
  | num {o : Nat} {w : Wd} {ts : List Wd} : w.k = 1 → P o .thing (w :: ts) (.ok (.mk 0 0 w.n [] [] w.a) ts)
  | tru {o : Nat} {w : Wd} {ts : List Wd} : w.k = 0 → w.t = truB → P o .thing (w :: ts) (.ok (.mk 1 0 1 [] [] w.a) ts)
  | fls {o : Nat} {w : Wd} {ts : List Wd} : w.k = 0 → w.t = flsB → P o .thing (w :: ts) (.ok (.mk 1 0 0 [] [] w.a) ts)
  | neg {o : Nat} {w : Wd} {ts : List Wd} {r : Res} : Sg w [45] → P o (.beh 4) (w :: ts) r → P o .thing (w :: ts) r
  | not {o : Nat} {w : Wd} {ts : List Wd} {r : Res} : Sg w [33] → P o (.beh 5) (w :: ts) r → P o .thing (w :: ts) r
  | par {o : Nat} {w : Wd} {ts : List Wd} {r : Res} : Sg w [40] → P o (.wth [41]) (w :: ts) r → P o .thing (w :: ts) r
  | name {o : Nat} {w : Wd} {ts : List Wd} {r : Res} : w.k = 0 → keyB w.t = false → P o .nam (w :: ts) r → P o .thing (w :: ts) r
  | stray {o : Nat} {w : Wd} {ts : List Wd} : Stray w → P o .thing (w :: ts) (.bad 11 w.a)
  | behLim {o : Nat} {k : Int} {w : Wd} {ts : List Wd} : o = 32 → P o (.beh k) (w :: ts) (.bad 2 w.a)
  | behOk {o : Nat} {k : Int} {w : Wd} {ts ts' : List Wd} {e : Ex} : o < 32 → P (o + 1) .thing ts (.ok e ts') → P o (.beh k) (w :: ts) (.ok (.mk k 0 0 [] [e] w.a) ts')
  | behBad {o : Nat} {k : Int} {w : Wd} {ts : List Wd} {e : Int} {a : Nat} : o < 32 → P (o + 1) .thing ts (.bad e a) → P o (.beh k) (w :: ts) (.bad e a)
  | wthLim {o : Nat} {c : List UInt8} {w : Wd} {ts : List Wd} : o = 32 → P o (.wth c) (w :: ts) (.bad 2 w.a)
  | wthOk {o : Nat} {c : List UInt8} {w d : Wd} {ts ts' : List Wd} {e : Ex} : o < 32 → P (o + 1) (.expr 1) ts (.ok e (d :: ts')) → Sg d c → P o (.wth c) (w :: ts) (.ok e ts')
  | wthNo {o : Nat} {c : List UInt8} {w d : Wd} {ts ts' : List Wd} {e : Ex} : o < 32 → P (o + 1) (.expr 1) ts (.ok e (d :: ts')) → ¬ Sg d c → P o (.wth c) (w :: ts) (.bad 11 d.a)
  | wthBad {o : Nat} {c : List UInt8} {w : Wd} {ts : List Wd} {e : Int} {a : Nat} : o < 32 → P (o + 1) (.expr 1) ts (.bad e a) → P o (.wth c) (w :: ts) (.bad e a)
  | namVar {o : Nat} {w c : Wd} {ts : List Wd} : ¬ Sg c [91] → ¬ Sg c [40] → P o .nam (w :: c :: ts) (.ok (.mk 2 0 0 w.t [] w.a) (c :: ts))
  | namElem {o : Nat} {w c : Wd} {ts ts' : List Wd} {e : Ex} : Sg c [91] → P o (.wth [93]) (c :: ts) (.ok e ts') → P o .nam (w :: c :: ts) (.ok (.mk 3 0 0 w.t [e] w.a) ts')
  | namElemBad {o : Nat} {w c : Wd} {ts : List Wd} {e : Int} {a : Nat} : Sg c [91] → P o (.wth [93]) (c :: ts) (.bad e a) → P o .nam (w :: c :: ts) (.bad e a)
  | namCall {o : Nat} {w c : Wd} {ts ts' : List Wd} {es : List Ex} : Sg c [40] → P o .giv (c :: ts) (.okL es ts') → P o .nam (w :: c :: ts) (.ok (.mk 7 0 0 w.t es w.a) ts')
  | namCallBad {o : Nat} {w c : Wd} {ts : List Wd} {e : Int} {a : Nat} : Sg c [40] → P o .giv (c :: ts) (.bad e a) → P o .nam (w :: c :: ts) (.bad e a)
  | givLim {o : Nat} {w : Wd} {ts : List Wd} : o = 32 → P o .giv (w :: ts) (.bad 2 w.a)
  | givNone {o : Nat} {w d : Wd} {ts : List Wd} : o < 32 → Sg d [41] → P o .giv (w :: d :: ts) (.okL [] ts)
  | givSome {o : Nat} {w d f : Wd} {ts ts' : List Wd} {es : List Ex} : o < 32 → ¬ Sg d [41] → P (o + 1) (.list []) (d :: ts) (.okL es (f :: ts')) → Sg f [41] → P o .giv (w :: d :: ts) (.okL es ts')
  | givNo {o : Nat} {w d f : Wd} {ts ts' : List Wd} {es : List Ex} : o < 32 → ¬ Sg d [41] → P (o + 1) (.list []) (d :: ts) (.okL es (f :: ts')) → ¬ Sg f [41] → P o .giv (w :: d :: ts) (.bad 11 f.a)
  | givBad {o : Nat} {w d : Wd} {ts : List Wd} {e : Int} {a : Nat} : o < 32 → ¬ Sg d [41] → P (o + 1) (.list []) (d :: ts) (.bad e a) → P o .giv (w :: d :: ts) (.bad e a)
  | lstMore {o : Nat} {d : Wd} {ts ts' : List Wd} {acc : List Ex} {e : Ex} {r : Res} : P o (.expr 1) ts (.ok e (d :: ts')) → Sg d [44] → P o (.list (acc ++ [e])) ts' r → P o (.list acc) ts r
  | lstEnd {o : Nat} {d : Wd} {ts ts' : List Wd} {acc : List Ex} {e : Ex} : P o (.expr 1) ts (.ok e (d :: ts')) → ¬ Sg d [44] → P o (.list acc) ts (.okL (acc ++ [e]) (d :: ts'))
  | lstBad {o : Nat} {ts : List Wd} {acc : List Ex} {e : Int} {a : Nat} : P o (.expr 1) ts (.bad e a) → P o (.list acc) ts (.bad e a)
  | expr {o : Nat} {r : Int} {ts ts' : List Wd} {l : Ex} {res : Res} : P o .thing ts (.ok l ts') → P o (.loop r l) ts' res → P o (.expr r) ts res
  | exprBad {o : Nat} {r : Int} {ts : List Wd} {e : Int} {a : Nat} : P o .thing ts (.bad e a) → P o (.expr r) ts (.bad e a)
  | loopEnd {o : Nat} {r : Int} {l : Ex} {c : Wd} {ts : List Wd} : rkW c < r → P o (.loop r l) (c :: ts) (.ok l (c :: ts))
  | loopMore {o : Nat} {r : Int} {l e : Ex} {c : Wd} {ts ts' : List Wd} {res : Res} : r ≤ rkW c → P o (.expr (rkW c + 1)) ts (.ok e ts') → P o (.loop r (.mk 6 (opB c.t) 0 [] [l, e] l.a)) ts' res → P o (.loop r l) (c :: ts) res
  | loopBad {o : Nat} {r : Int} {l : Ex} {c : Wd} {ts : List Wd} {e : Int} {a : Nat} : r ≤ rkW c → P o (.expr (rkW c + 1)) ts (.bad e a) → P o (.loop r l) (c :: ts) (.bad e a)

/-- A row of words that ends with the end. -/
def Fin (ts : List Wd) : Prop := ∃ pre e, ts = pre ++ [e] ∧ e.k = 3
theorem Fin.cons {w : Wd} {ts : List Wd} (h : Fin (w :: ts)) (hw : w.k ≠ 3) : Fin ts := by
  obtain ⟨pre, e, h1, h2⟩ := h
  cases pre with
  | nil =>
    simp at h1
    exact absurd (h1.1 ▸ h2) hw
  | cons x pre =>
    simp at h1
    exact ⟨pre, e, h1.2, h2⟩
theorem Fin.ne {ts : List Wd} (h : Fin ts) : ∃ w r, ts = w :: r := by
  obtain ⟨pre, e, h1, _⟩ := h
  cases pre with
  | nil => exact ⟨e, [], by simpa using h1⟩
  | cons x pre => exact ⟨x, pre ++ [e], by simpa using h1⟩
theorem Sg.ne {w : Wd} {t : List UInt8} (h : Sg w t) : w.k ≠ 3 := by rw [h.1]; decide
theorem rkW_ne {w : Wd} (h : 1 ≤ rkW w) : w.k = 2 ∧ 1 ≤ rnkZ (opB w.t) := by
  unfold rkW at h
  split at h
  · exact ⟨by assumption, h⟩
  · omega
theorem rkW_bd (w : Wd) : 0 ≤ rkW w ∧ rkW w ≤ 10 := by
  unfold rkW
  split
  · exact rnkZ_le _
  · omega

def Job.lst : Job → Bool | .giv => true | .list _ => true | _ => false
def Job.min : Job → Nat | .loop _ _ => 0 | _ => 1
def Job.low : Job → Prop | .expr r => 1 ≤ r | .loop r _ => 1 ≤ r | _ => True
def Post (j : Job) (ts : List Wd) : Res → Prop
  | .ok _ ts' => j.lst = false ∧ Fin ts' ∧ ts'.length + j.min ≤ ts.length
  | .okL _ ts' => j.lst = true ∧ Fin ts' ∧ ts'.length + j.min ≤ ts.length
  | .bad _ _ => True

/-- What a job leaves: a row that ends with the end, and is shorter. -/
theorem P.post {o : Nat} {j : Job} {ts : List Wd} {r : Res} (h : P o j ts r) : j.low → Fin ts → (j = .nam → ∀ w t, ts = w :: t → w.k = 0) → (∀ k, j = .beh k → ∀ w t, ts = w :: t → w.k = 2) → (∀ c, j = .wth c → ∀ w t, ts = w :: t → w.k = 2) → (j = .giv → ∀ w t, ts = w :: t → w.k = 2) → Post j ts r := by
  induction h with
  | num h => intro _ hf _ _ _ _; exact ⟨rfl, hf.cons (by rw [h]; decide), by simp [Job.min]⟩
  | tru h _ => intro _ hf _ _ _ _; exact ⟨rfl, hf.cons (by rw [h]; decide), by simp [Job.min]⟩
  | fls h _ => intro _ hf _ _ _ _; exact ⟨rfl, hf.cons (by rw [h]; decide), by simp [Job.min]⟩
  | @neg o w ts r hs h ih =>
    intro _ hf _ _ _ _
    have := ih trivial hf (by simp) (by rintro k - w' t' e; simp at e; rw [← e.1]; exact hs.1) (by simp) (by simp)
    cases r <;> simp_all [Post, Job.lst, Job.min]
  | @not o w ts r hs h ih =>
    intro _ hf _ _ _ _
    have := ih trivial hf (by simp) (by rintro k - w' t' e; simp at e; rw [← e.1]; exact hs.1) (by simp) (by simp)
    cases r <;> simp_all [Post, Job.lst, Job.min]
  | @par o w ts r hs h ih =>
    intro _ hf _ _ _ _
    have := ih trivial hf (by simp) (by simp) (by rintro k - w' t' e; simp at e; rw [← e.1]; exact hs.1) (by simp)
    cases r <;> simp_all [Post, Job.lst, Job.min]
  | @name o w ts r hs hk h ih =>
    intro _ hf _ _ _ _
    have := ih trivial hf (by rintro - w' t' e; simp at e; rw [← e.1]; exact hs) (by simp) (by simp) (by simp)
    cases r <;> simp_all [Post, Job.lst, Job.min]
  | stray => intros; trivial
  | behLim => intros; trivial
  | @behOk o k w ts ts' e ho h ih =>
    intro _ hf _ hb _ _
    have := ih trivial (hf.cons (by rw [hb k rfl w ts rfl]; decide)) (by simp) (by simp) (by simp) (by simp)
    simp [Post, Job.lst, Job.min] at this ⊢
    exact ⟨this.1, by omega⟩
  | behBad => intros; trivial
  | wthLim => intros; trivial
  | @wthOk o c w d ts ts' e ho h hd ih =>
    intro _ hf _ _ hb _
    have := ih (by simp [Job.low]) (hf.cons (by rw [hb c rfl w ts rfl]; decide)) (by simp) (by simp) (by simp) (by simp)
    simp [Post, Job.lst, Job.min] at this ⊢
    exact ⟨this.1.cons hd.ne, by omega⟩
  | wthNo => intros; trivial
  | wthBad => intros; trivial
  | namVar h1 h2 => intro _ hf hn _ _ _; exact ⟨rfl, hf.cons (by rw [hn rfl _ _ rfl]; decide), by simp [Job.min]⟩
  | @namElem o w c ts ts' e hs h ih =>
    intro _ hf hn _ _ _
    have := ih trivial (hf.cons (by rw [hn rfl _ _ rfl]; decide)) (by simp) (by simp) (by rintro k - w' t' e; simp at e; rw [← e.1]; exact hs.1) (by simp)
    simp [Post, Job.lst, Job.min] at this ⊢
    exact ⟨this.1, by omega⟩
  | namElemBad => intros; trivial
  | @namCall o w c ts ts' es hs h ih =>
    intro _ hf hn _ _ _
    have := ih trivial (hf.cons (by rw [hn rfl _ _ rfl]; decide)) (by simp) (by simp) (by simp) (by rintro - w' t' e; simp at e; rw [← e.1]; exact hs.1)
    simp [Post, Job.lst, Job.min] at this ⊢
    exact ⟨this.1, by omega⟩
  | namCallBad => intros; trivial
  | givLim => intros; trivial
  | @givNone o w d ts ho hd =>
    intro _ hf _ _ _ hg
    exact ⟨rfl, (hf.cons (by rw [hg rfl _ _ rfl]; decide)).cons hd.ne, by simp [Job.min]⟩
  | @givSome o w d f ts ts' es ho hd h hf' ih =>
    intro _ hf _ _ _ hg
    have := ih trivial (hf.cons (by rw [hg rfl _ _ rfl]; decide)) (by simp) (by simp) (by simp) (by simp)
    simp [Post, Job.lst, Job.min] at this ⊢
    exact ⟨this.1.cons hf'.ne, by omega⟩
  | givNo => intros; trivial
  | givBad => intros; trivial
  | @lstMore o d ts ts' acc e r h hd h2 ih ih2 =>
    intro _ hf _ _ _ _
    have h1 := ih (by simp [Job.low]) hf (by simp) (by simp) (by simp) (by simp)
    simp [Post, Job.lst, Job.min] at h1
    have h3 := ih2 trivial (h1.1.cons hd.ne) (by simp) (by simp) (by simp) (by simp)
    cases r <;> simp [Post, Job.lst, Job.min] at h3 ⊢
    exact ⟨h3.1, by omega⟩
  | @lstEnd o d ts ts' acc e h hd ih =>
    intro _ hf _ _ _ _
    have h1 := ih (by simp [Job.low]) hf (by simp) (by simp) (by simp) (by simp)
    simpa [Post, Job.lst, Job.min] using h1
  | lstBad => intros; trivial
  | @expr o r ts ts' l res h h2 ih ih2 =>
    intro hl hf _ _ _ _
    have h1 := ih trivial hf (by simp) (by simp) (by simp) (by simp)
    simp [Post, Job.lst, Job.min] at h1
    have h3 := ih2 hl h1.1 (by simp) (by simp) (by simp) (by simp)
    cases res <;> simp [Post, Job.lst, Job.min] at h3 ⊢
    exact ⟨h3.1, by omega⟩
  | exprBad => intros; trivial
  | loopEnd => intro _ hf _ _ _ _; exact ⟨rfl, hf, by simp [Job.min]⟩
  | @loopMore o r l e c ts ts' res hr h h2 ih ih2 =>
    intro hl hf _ _ _ _
    have hc : 1 ≤ rkW c := Int.le_trans hl hr
    have h1 := ih (by simp [Job.low]; omega) (hf.cons (by rw [(rkW_ne hc).1]; decide)) (by simp) (by simp) (by simp) (by simp)
    simp [Post, Job.lst, Job.min] at h1
    have h3 := ih2 hl h1.1 (by simp) (by simp) (by simp) (by simp)
    cases res <;> simp [Post, Job.lst, Job.min] at h3 ⊢
    exact ⟨h3.1, by omega⟩
  | loopBad => intros; trivial
/-- What is left is the end of what there was. -/
def Suf (ts : List Wd) : Res → Prop
  | .ok _ ts' => ts' <:+ ts
  | .okL _ ts' => ts' <:+ ts
  | .bad _ _ => True
theorem suf_cons {w : Wd} {a b : List Wd} (h : a <:+ b) : a <:+ w :: b := h.trans (List.suffix_cons _ _)
theorem P.suf0 {o : Nat} {j : Job} {ts : List Wd} {r : Res} (h : P o j ts r) : Suf ts r := by
  induction h with
  | num => exact List.suffix_cons _ _
  | tru => exact List.suffix_cons _ _
  | fls => exact List.suffix_cons _ _
  | neg _ _ ih => exact ih
  | not _ _ ih => exact ih
  | par _ _ ih => exact ih
  | name _ _ _ ih => exact ih
  | stray => trivial
  | behLim => trivial
  | behOk _ _ ih => exact suf_cons ih
  | behBad => trivial
  | wthLim => trivial
  | wthOk _ _ _ ih => exact suf_cons ((List.suffix_cons _ _).trans ih)
  | wthNo => trivial
  | wthBad => trivial
  | namVar => exact List.suffix_cons _ _
  | namElem _ _ ih => exact suf_cons ih
  | namElemBad => trivial
  | namCall _ _ ih => exact suf_cons ih
  | namCallBad => trivial
  | givLim => trivial
  | givNone => exact suf_cons (List.suffix_cons _ _)
  | givSome _ _ _ _ ih => exact suf_cons ((List.suffix_cons _ _).trans ih)
  | givNo => trivial
  | givBad => trivial
  | @lstMore _ _ _ _ _ _ r _ _ _ ih ih2 =>
    cases r with
    | ok => exact List.IsSuffix.trans ih2 ((List.suffix_cons _ _).trans ih)
    | okL => exact List.IsSuffix.trans ih2 ((List.suffix_cons _ _).trans ih)
    | bad => trivial
  | lstEnd _ _ ih => exact ih
  | lstBad => trivial
  | @expr _ _ _ _ _ r _ _ ih ih2 =>
    cases r with
    | ok => exact List.IsSuffix.trans ih2 ih
    | okL => exact List.IsSuffix.trans ih2 ih
    | bad => trivial
  | exprBad => trivial
  | loopEnd => exact List.suffix_refl _
  | @loopMore _ _ _ _ _ _ _ r _ _ _ ih ih2 =>
    cases r with
    | ok => exact suf_cons (List.IsSuffix.trans ih2 ih)
    | okL => exact suf_cons (List.IsSuffix.trans ih2 ih)
    | bad => trivial
  | loopBad => trivial
theorem P.suf {o : Nat} {j : Job} {ts ts' : List Wd} {x : Ex} (h : P o j ts (.ok x ts')) : ts' <:+ ts := h.suf0
theorem P.sufL {o : Nat} {j : Job} {ts ts' : List Wd} {xs : List Ex} (h : P o j ts (.okL xs ts')) : ts' <:+ ts := h.suf0
end Go.Proofs.YtngfbpmabdmkeaaGreatDoor
