/- All the reader's methods do what the grammar says: by induction on what is left. -/
import Derived.Test.YtngfbpmabdmkeaaGreatDoorBeh
import Derived.Test.YtngfbpmabdmkeaaGreatDoorWth
import Derived.Test.YtngfbpmabdmkeaaGreatDoorNam
import Derived.Test.YtngfbpmabdmkeaaGreatDoorGiv
import Derived.Test.YtngfbpmabdmkeaaGreatDoorExpr
import Derived.Test.YtngfbpmabdmkeaaGreatDoorThing
namespace Go.Proofs.YtngfbpmabdmkeaaGreatDoor
open Go Go.RowKit

theorem Below'.mono {rb g cap mb bx : Nat} {ws : List Wd} {N M : Nat} (h : Below' rb g cap mb bx ws N) (hM : M ≤ N) : Below' rb g cap mb bx ws M :=
  fun j o ts r hP hs hF hm ho hN => h j o ts r hP hs hF hm ho (by omega)

/-- How each word is looked up. -/
theorem begins_num {x : Wd} (hk : x.k = 1) : Begins x 1 ⟨#[]⟩ := fun w => by rw [hk]; exact begin_num _ _ _ w
theorem begins_name {x : Wd} (hk : x.k = 0) (ht : x.t.length ≤ 100000) (hb : keyB x.t = false) : Begins x 0 ⟨#[]⟩ := fun w => by
  rw [hk]
  exact begin_name _ _ _ w (by show x.t.toArray.size ≤ _; simp [maxLen]; omega) (Lib.hid (by simpa [bstr] using hb))
theorem begins_key {x : Wd} (hk : x.k = 0) (ht : x.t.length ≤ 100000) (hb : keyB x.t = true) : Begins x 0 (bstr x.t) := fun w => by
  rw [hk]
  exact begin_key _ _ _ w (by show x.t.toArray.size ≤ _; simp [maxLen]; omega) (Lib.hid (by simpa [bstr] using hb))
theorem begins_sign {x : Wd} (h0 : x.k ≠ 0) (h1 : x.k ≠ 1) : Begins x x.k (bstr x.t) := fun w => begin_sign _ _ _ _ w (by simpa using h0) (by simpa using h1)

theorem looks_at {mb bx : Nat} (j : Nat) (hj : j < 7) {k : Int} {t : ByteArray} (hk : bkey j = opnV k t) : Looks k t mb bx (bval bx j) true := fun X hX => look_yes hX j hj hk
theorem bstr_inj {a b : List UInt8} (h : bstr a = bstr b) : a = b := by
  have := congrArg (fun s : ByteArray => s.data.toList) h
  simpa [bstr] using this
theorem looks_stray {mb bx : Nat} {x : Wd} (h : Stray x) : Looks x.k (bstr x.t) mb bx .nilFunc false := fun X hX => look_no hX fun j hj e => by
  obtain ⟨h1, h2, h3⟩ := h
  match j, hj with
  | 0, _ =>
    simp [bkey] at e
    exact (h3 e.1.symm).1 (bstr_inj (e.2.symm.trans (show (⟨#[45]⟩ : ByteArray) = bstr [45] from rfl)))
  | 1, _ =>
    simp [bkey] at e
    exact (h3 e.1.symm).2.1 (bstr_inj (e.2.symm.trans (show (⟨#[33]⟩ : ByteArray) = bstr [33] from rfl)))
  | 2, _ =>
    simp [bkey] at e
    exact (h3 e.1.symm).2.2 (bstr_inj (e.2.symm.trans (show (⟨#[40]⟩ : ByteArray) = bstr [40] from rfl)))
  | 3, _ =>
    simp [bkey] at e
    exact h1 e.1.symm
  | 4, _ =>
    simp [bkey] at e
    exact (h2 e.1.symm).2.1 (bstr_inj (e.2.symm.trans (show (⟨#[116, 114, 117, 101]⟩ : ByteArray) = bstr truB from rfl)))
  | 5, _ =>
    simp [bkey] at e
    exact (h2 e.1.symm).2.2 (bstr_inj (e.2.symm.trans (show (⟨#[102, 97, 108, 115, 101]⟩ : ByteArray) = bstr flsB from rfl)))
  | 6, _ =>
    simp [bkey] at e
    have hkt := (h2 e.1.symm).1
    have : x.t = [] := bstr_inj (e.2.symm.trans (show (⟨#[]⟩ : ByteArray) = bstr [] from rfl))
    rw [this] at hkt
    exact absurd hkt (by decide)
  | j + 7, hj => exact absurd hj (by omega)


/-- The results of a thing are no lists. -/
theorem thing_form {o : Nat} {ts : List Wd} {r : Res} (h : P o .thing ts r) (hF : Fin ts) : (∃ x ts', r = .ok x ts') ∨ (∃ c a, r = .bad c a) := by
  have := h.post' trivial hF
  cases r with
  | ok x ts' => exact .inl ⟨_, _, rfl⟩
  | okL => simp [Post, Job.lst] at this
  | bad c a => exact .inr ⟨_, _, rfl⟩

theorem hfv53 (args : Array Value) (w : World) : (callFunc 92 args).run Tryz.prog w = .ok (.enter 92 args) w := enters_of Tryz.func92 (by kernel_rfl) rfl args w
theorem hfv55 (args : Array Value) (w : World) : (callFunc 94 args).run Tryz.prog w = .ok (.enter 94 args) w := enters_of Tryz.func94 (by kernel_rfl) rfl args w
theorem hfv56 (args : Array Value) (w : World) : (callFunc 95 args).run Tryz.prog w = .ok (.enter 95 args) w := enters_of Tryz.func95 (by kernel_rfl) rfl args w
theorem hfv58 (args : Array Value) (w : World) : (callFunc 97 args).run Tryz.prog w = .ok (.enter 97 args) w := enters_of Tryz.func97 (by kernel_rfl) rfl args w
theorem hfv61 (args : Array Value) (w : World) : (callFunc 100 args).run Tryz.prog w = .ok (.enter 100 args) w := enters_of Tryz.func100 (by kernel_rfl) rfl args w
theorem hfv62 (args : Array Value) (w : World) : (callFunc 101 args).run Tryz.prog w = .ok (.enter 101 args) w := enters_of Tryz.func101 (by kernel_rfl) rfl args w
theorem hfv63 (args : Array Value) (w : World) : (callFunc 102 args).run Tryz.prog w = .ok (.enter 102 args) w := enters_of Tryz.func102 (by kernel_rfl) rfl args w

theorem thing_step (rb g cap mb bx : Nat) (ws : List Wd) (hlong : ∀ x ∈ ws, x.t.length ≤ 100000) (o : Nat) (ts0 : List Wd) (r : Res) (IH : Below' rb g cap mb bx ws (4 * ts0.length + 1)) (hP : P o .thing ts0 r) (hs : ts0 <:+ ws) (hF : Fin ts0) (ho : o ≤ 32) :
    Goal rb g cap mb bx ws .thing o ts0 r := by
  have hform := thing_form hP hF
  cases hP with
  | @num _ w ts hk => exact thing_ok rb g cap mb bx ws o w ts hs _ _ (Lib.hid (begins_num hk)) _ _ _ (Lib.hid (looks_at 3 (by decide) rfl)) hfv58 (Lib.hid (clo4 rb g cap mb bx ws o w ts hs))
  | @tru _ w ts hk ht =>
    have hb := begins_key hk (hlong w (hs.subset (by simp))) (by rw [ht]; decide)
    rw [ht] at hb
    exact thing_ok rb g cap mb bx ws o w ts hs _ _ (Lib.hid hb) _ _ _ (Lib.hid (looks_at 4 (by decide) rfl)) hfv61 (Lib.hid (clo5 rb g cap mb bx ws o w ts hs))
  | @fls _ w ts hk ht =>
    have hb := begins_key hk (hlong w (hs.subset (by simp))) (by rw [ht]; decide)
    rw [ht] at hb
    exact thing_ok rb g cap mb bx ws o w ts hs _ _ (Lib.hid hb) _ _ _ (Lib.hid (looks_at 5 (by decide) rfl)) hfv62 (Lib.hid (clo6 rb g cap mb bx ws o w ts hs))
  | @neg _ w ts _ hsg h =>
    have hb := begins_sign (x := w) (by rw [hsg.1]; decide) (by rw [hsg.1]; decide)
    rw [hsg.1, hsg.2] at hb
    have hG := IH (.beh 4) _ _ _ h hs hF (by rintro w' t' e; cases e; exact hsg.1) ho (by simp [Job.wt])
    rcases hform with ⟨x, ts', rfl⟩ | ⟨c, a, rfl⟩
    · exact thing_ok rb g cap mb bx ws o w ts hs _ _ (Lib.hid hb) _ _ _ (Lib.hid (looks_at 0 (by decide) rfl)) hfv53 (Lib.hid (clo1_ok rb g cap mb bx ws o _ x ts' (Lib.hid hG)))
    · exact thing_bad rb g cap mb bx ws o w ts hs _ _ (Lib.hid hb) _ _ _ (Lib.hid (looks_at 0 (by decide) rfl)) hfv53 (Lib.hid (clo1_bad rb g cap mb bx ws o _ c a (Lib.hid hG)))
  | @not _ w ts _ hsg h =>
    have hb := begins_sign (x := w) (by rw [hsg.1]; decide) (by rw [hsg.1]; decide)
    rw [hsg.1, hsg.2] at hb
    have hG := IH (.beh 5) _ _ _ h hs hF (by rintro w' t' e; cases e; exact hsg.1) ho (by simp [Job.wt])
    rcases hform with ⟨x, ts', rfl⟩ | ⟨c, a, rfl⟩
    · exact thing_ok rb g cap mb bx ws o w ts hs _ _ (Lib.hid hb) _ _ _ (Lib.hid (looks_at 1 (by decide) rfl)) hfv55 (Lib.hid (clo2_ok rb g cap mb bx ws o _ x ts' (Lib.hid hG)))
    · exact thing_bad rb g cap mb bx ws o w ts hs _ _ (Lib.hid hb) _ _ _ (Lib.hid (looks_at 1 (by decide) rfl)) hfv55 (Lib.hid (clo2_bad rb g cap mb bx ws o _ c a (Lib.hid hG)))
  | @par _ w ts _ hsg h =>
    have hb := begins_sign (x := w) (by rw [hsg.1]; decide) (by rw [hsg.1]; decide)
    rw [hsg.1, hsg.2] at hb
    have hG := IH (.wth [41]) _ _ _ h hs hF (by rintro w' t' e; cases e; exact hsg.1) ho (by simp [Job.wt])
    rcases hform with ⟨x, ts', rfl⟩ | ⟨c, a, rfl⟩
    · exact thing_ok rb g cap mb bx ws o w ts hs _ _ (Lib.hid hb) _ _ _ (Lib.hid (looks_at 2 (by decide) rfl)) hfv56 (Lib.hid (clo3_ok rb g cap mb bx ws o _ x ts' (Lib.hid hG)))
    · exact thing_bad rb g cap mb bx ws o w ts hs _ _ (Lib.hid hb) _ _ _ (Lib.hid (looks_at 2 (by decide) rfl)) hfv56 (Lib.hid (clo3_bad rb g cap mb bx ws o _ c a (Lib.hid hG)))
  | @name _ w ts _ hk hkey h =>
    have hb := begins_name hk (hlong w (hs.subset (by simp))) hkey
    have hG := IH .nam _ _ _ h hs hF (by rintro w' t' e; cases e; exact hk) ho (by simp [Job.wt])
    rcases hform with ⟨x, ts', rfl⟩ | ⟨c, a, rfl⟩
    · exact thing_ok rb g cap mb bx ws o w ts hs _ _ (Lib.hid hb) _ _ _ (Lib.hid (looks_at 6 (by decide) rfl)) hfv63 (Lib.hid (clo7_ok rb g cap mb bx ws o _ x ts' (Lib.hid hG)))
    · exact thing_bad rb g cap mb bx ws o w ts hs _ _ (Lib.hid hb) _ _ _ (Lib.hid (looks_at 6 (by decide) rfl)) hfv63 (Lib.hid (clo7_bad rb g cap mb bx ws o _ c a (Lib.hid hG)))
  | @stray _ w ts h =>
    have hb : Begins w w.k (bstr w.t) := by
      by_cases h0 : w.k = 0
      · have := begins_key h0 (hlong w (hs.subset (by simp))) (h.2.1 h0).1
        rw [h0]
        exact this
      · exact begins_sign h0 h.1
    exact thing_stray rb g cap mb bx ws o w ts hs _ _ (Lib.hid hb) (Lib.hid (looks_stray h))

/-- Every method does what the grammar says. -/
theorem all_methods (rb g cap mb bx : Nat) (ws : List Wd) (hlong : ∀ x ∈ ws, x.t.length ≤ 100000) : ∀ N, Below' rb g cap mb bx ws N := by
  intro N
  induction N with
  | zero => exact fun j o ts r _ _ _ _ _ h => absurd h (by omega)
  | succ N ih =>
    intro j o ts r hP hs hF hm ho hN
    cases j with
    | thing => exact thing_step rb g cap mb bx ws hlong o ts r (ih.mono (by simp [Job.wt] at hN; omega)) hP hs hF ho
    | beh k => exact beh_step rb g cap mb bx ws o k ts r (ih.mono (by simp [Job.wt] at hN; omega)) hP hs hF hm ho
    | wth c => exact wth_step rb g cap mb bx ws o c ts r (ih.mono (by simp [Job.wt] at hN; omega)) hP hs hF hm ho
    | nam => exact nam_step rb g cap mb bx ws o ts r (ih.mono (by simp [Job.wt] at hN; omega)) hP hs hF hm ho
    | giv =>
      have IH : Below' rb g cap mb bx ws (4 * ts.length) := ih.mono (by simp [Job.wt] at hN; omega)
      have hk := fun w t e => hm w t e
      cases hP with
      | @givLim _ w ts h =>
        subst h
        exact giv_lim rb g cap mb bx ws w ts hs
      | @givNone _ w d ts hlt hd => exact giv_none rb g cap mb bx ws o w d ts hs hlt (Lib.hid hd)
      | @givSome _ w d f ts ts' es hlt hd h hf => exact giv_some rb g cap mb bx ws o w d ts _ _ IH hs (hF.cons (by rw [hk w _ rfl]; decide)) hlt (Lib.hid hd) h (Lib.hid (.inl ⟨hf, rfl⟩))
      | @givNo _ w d f ts ts' es hlt hd h hf => exact giv_some rb g cap mb bx ws o w d ts _ _ IH hs (hF.cons (by rw [hk w _ rfl]; decide)) hlt (Lib.hid hd) h (Lib.hid (.inr ⟨hf, rfl⟩))
      | @givBad _ w d ts e a hlt hd h => exact giv_some rb g cap mb bx ws o w d ts _ _ IH hs (hF.cons (by rw [hk w _ rfl]; decide)) hlt (Lib.hid hd) h (Lib.hid rfl)
    | expr r' =>
      have IH : Below' rb g cap mb bx ws (4 * ts.length + 2) := ih.mono (by simp [Job.wt] at hN; omega)
      cases hP with
      | @expr _ _ _ ts' l _ h1 h2 => exact expr_ok rb g cap mb bx ws o r' ts ts' l r IH hm ho h1 h2 hs hF
      | @exprBad _ _ _ e a h => exact expr_bad rb g cap mb bx ws o r' ts e a (Lib.hid (IH .thing _ _ _ h hs hF trivial ho (by simp [Job.wt])))
    | loop r' l => trivial
    | list acc => trivial
end Go.Proofs.YtngfbpmabdmkeaaGreatDoor
