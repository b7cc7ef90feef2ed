/- Joined texts: Fit Wt ShX Tot Det Q Tx Rr ExP Rs Re Rnam Rlist: lemmas for the law; each says its own conditions. -/
import Derived.Test.YtkhbbapocamlmaaDoorQ01
import Derived.Deep.QuietTactic
import Derived.BigQuiet
import Derived.RegionTactic
import Derived.BigRegion
import Derived.StillTailTactics
import Derived.Deep.AppendLies
import Derived.Deep.Cut
set_option linter.unusedSimpArgs false
set_option linter.unusedVariables false
set_option maxRecDepth 100000
set_option maxHeartbeats 8000000
open Go.Lib (hid)
namespace Go.Proofs.YtkhbbapocamlmaaDoor
open Go
def NameB (t : List UInt8) : Prop:=∃ c r,t = c :: r ∧ isLetter c = true ∧ (∀ d ∈ r,isPart d = true) ∧ t.length ≤ 24 ∧ keyB t = false
def WdOk (w : Wd) : Prop:=(w.k = 0 → keyB w.t = false → NameB w.t) ∧ (w.k = 1 → 0 ≤ w.n ∧ w.n ≤ 9223372036854775807 ∧ w.t = Lib.itoa w.n) ∧ (w.k ≠ 3 → 1 ≤ w.t.length)
theorem rank_pos : ∀ j : Nat,j < 19 → j ≠ 16 → 1 ≤ rnkZ (j : Int):=by decide
inductive Fit : Nat → Int → Ex → Prop
 | num {o : Nat} {r n : Int} {a : Nat} : 0 ≤ n → n ≤ 9223372036854775807 → Fit o r (.mk 0 0 n [] [] a)
 | tru {o : Nat} {r : Int} {a : Nat} : Fit o r (.mk 1 0 1 [] [] a)
 | fls {o : Nat} {r : Int} {a : Nat} : Fit o r (.mk 1 0 0 [] [] a)
 | var {o : Nat} {r : Int} {nm : List UInt8} {a : Nat} : NameB nm → Fit o r (.mk 2 0 0 nm [] a)
 | elem {o : Nat} {r : Int} {nm : List UInt8} {e : Ex} {a : Nat} : NameB nm → o < 32 → Fit (o + 1) 1 e → Fit o r (.mk 3 0 0 nm [e] a)
 | neg {o : Nat} {r : Int} {e : Ex} {a : Nat} : o < 32 → Fit (o + 1) 11 e → Fit o r (.mk 4 0 0 [] [e] a)
 | not {o : Nat} {r : Int} {e : Ex} {a : Nat} : o < 32 → Fit (o + 1) 11 e → Fit o r (.mk 5 0 0 [] [e] a)
 | two {o j : Nat} {r : Int} {l e : Ex} {a : Nat} : j < 19 → j ≠ 16 → r ≤ rnkZ j → Fit o (rnkZ j) l → Fit o (rnkZ j + 1) e → Fit o r (.mk 6 j 0 [] [l,e] a)
 | brk {o j : Nat} {r : Int} {l e : Ex} {a : Nat} : 1 ≤ rnkZ j → rnkZ j < r → o < 32 → Fit (o + 1) 1 (.mk 6 j 0 [] [l,e] a) → Fit o r (.mk 6 j 0 [] [l,e] a)
 | call {o : Nat} {r : Int} {nm : List UInt8} {es : List Ex} {a : Nat} : NameB nm → o < 32 → (∀ e,e ∈ es → Fit (o + 1) 1 e) → Fit o r (.mk 7 0 0 nm es a)
theorem Fit.mono {o : Nat} {r : Int} {x : Ex} (h : Fit o r x) : ∀ {o' : Nat} {r' : Int},o' ≤ o → r' ≤ r → Fit o' r' x:=by
 induction h with
 | num h1 h2 => intros;exact .num h1 h2
 | tru => intros;exact .tru
 | fls => intros;exact .fls
 | var h => intros;exact .var h
 | elem h1 h2 _ ih => intro o' r' ho _;exact .elem h1 (by omega) (ih (by omega) (Int.le_refl _))
 | neg h2 _ ih => intro o' r' ho _;exact .neg (by omega) (ih (by omega) (Int.le_refl _))
 | not h2 _ ih => intro o' r' ho _;exact .not (by omega) (ih (by omega) (Int.le_refl _))
 | two h1 h2 h3 _ _ ih1 ih2 => intro o' r' ho hr;exact .two h1 h2 (by omega) (ih1 ho (Int.le_refl _)) (ih2 ho (Int.le_refl _))
 | @brk o j r l e a h1 h2 h3 _ ih =>
  intro o' r' ho hr
  by_cases hj : r' ≤ rnkZ j
  · cases ih (o':=o') (r':=1) (by omega) (Int.le_refl _) with
    | two k1 k2 k3 k4 k5 => exact .two k1 k2 hj k4 k5
    | brk k1 k2 => omega
  · exact .brk h1 (by omega) (by omega) (ih (by omega) (Int.le_refl _))
 | call h1 h2 _ ih => intro o' r' ho _;exact .call h1 (by omega) fun e he => ih e he (by omega) (Int.le_refl _)
theorem Fit.up {o : Nat} {x : Ex} (h : Fit (o + 1) 1 x) (ho : o < 32) : Fit o 11 x:=by
 cases h with
 | num h1 h2 => exact .num h1 h2
 | tru => exact .tru
 | fls => exact .fls
 | var h => exact .var h
 | elem h1 h2 h3 => exact .elem h1 ho (h3.mono (by omega) (Int.le_refl _))
 | neg h2 h3 => exact .neg ho (h3.mono (by omega) (Int.le_refl _))
 | not h2 h3 => exact .not ho (h3.mono (by omega) (Int.le_refl _))
 | @two _ j _ l e a h1 h2 h3 h4 h5 =>
  have:=(rnkZ_le j).2
  exact .brk (rank_pos j h1 h2) (by omega) ho (.two h1 h2 h3 h4 h5)
 | brk h1 h2 => omega
 | call h1 h2 h3 => exact .call h1 ho fun e he => (h3 e he).mono (by omega) (Int.le_refl _)
def FitPost (o : Nat) : Job → List Wd → Res → Prop
 | .thing,_,.ok e _ => Fit o 11 e
 | .beh k,_,.ok e _ => k = 4 ∨ k = 5 → Fit o 11 e
 | .wth _,_,.ok e _ => o < 32 ∧ Fit (o + 1) 1 e
 | .nam,ts,.ok e _ => (∀ w t,ts = w :: t → NameB w.t) → Fit o 11 e
 | .giv,_,.okL es _ => o < 32 ∧ ∀ e,e ∈ es → Fit (o + 1) 1 e
 | .expr r,_,.ok e ts' => 1 ≤ r → r ≤ 11 → Fit o r e ∧ ∀ c t,ts' = c :: t → rkW c < r
 | .loop r l,ts,.ok e ts' => 1 ≤ r → r ≤ 11 → (∀ c t,ts = c :: t → ∃ q,r ≤ q ∧ rkW c ≤ q ∧ Fit o q l) → Fit o r e ∧ ∀ c t,ts' = c :: t → rkW c < r
 | .list acc,_,.okL es _ => (∀ e,e ∈ acc → Fit o 1 e) → ∀ e,e ∈ es → Fit o 1 e
 | _,_,_ => True
theorem suf_all {p : Wd → Prop} {a b : List Wd} (h : a <:+ b) (hb : ∀ w ∈ b,p w) : ∀ w ∈ a,p w:=fun w hw => hb w (h.subset hw)
theorem P.fit {o : Nat} {j : Job} {ts : List Wd} {r : Res} (h : P o j ts r) : (∀ w ∈ ts,WdOk w) → FitPost o j ts r:=by
 induction h with
 | @num o w ts hk =>
  intro hw
  have:=(hw w (by simp)).2.1 hk
  exact .num this.1 this.2.1
 | tru => intro _;exact .tru
 | fls => intro _;exact .fls
 | @neg o w ts r hs h ih =>
  intro hw
  have:=ih hw
  cases r with
  | ok e t => exact this (.inl rfl)
  | okL | bad => trivial
 | @not o w ts r hs h ih =>
  intro hw
  have:=ih hw
  cases r with
  | ok e t => exact this (.inr rfl)
  | okL | bad => trivial
 | @par o w ts r hs h ih =>
  intro hw
  have:=ih hw
  cases r with
  | ok e t => exact this.2.up this.1
  | okL | bad => trivial
 | @name o w ts r hs hk h ih =>
  intro hw
  have:=ih hw
  cases r with
  | ok e t => exact this (by rintro w' t' e;cases e;exact (hw w (by simp)).1 hs hk)
  | okL | bad => trivial
 | stray | behLim | behBad | wthLim | wthNo | wthBad | namElemBad | namCallBad | givLim | givNo | givBad | lstBad | exprBad | loopBad => intro _;trivial
 | behOk ho h ih =>
  intro hw
  have:=ih fun w h => hw w (List.mem_cons_of_mem _ h)
  rintro (rfl | rfl)
  · exact .neg ho this
  · exact .not ho this
 | wthOk ho h hd ih =>
  intro hw
  exact ⟨ho,(ih (fun w h => hw w (List.mem_cons_of_mem _ h)) (Int.le_refl _) (by decide)).1⟩
 | namVar h1 h2 => intro _ hn;exact .var (hn _ _ rfl)
 | namElem hs h ih =>
  intro hw hn
  have:=ih fun w h => hw w (List.mem_cons_of_mem _ h)
  exact .elem (hn _ _ rfl) this.1 this.2
 | namCall hs h ih =>
  intro hw hn
  have:=ih fun w h => hw w (List.mem_cons_of_mem _ h)
  exact .call (hn _ _ rfl) this.1 this.2
 | givNone ho hd => intro _;exact ⟨ho,by simp⟩
 | givSome ho hd h hf ih =>
  intro hw
  exact ⟨ho,ih (fun w h => hw w (List.mem_cons_of_mem _ h)) (by simp)⟩
 | @lstMore o d ts ts' acc e r h hd h2 ih ih2 =>
  intro hw
  have h1:=(ih hw (Int.le_refl _) (by decide)).1
  have h3:=ih2 (suf_all ((List.suffix_cons _ _).trans h.suf) hw)
  cases r with
  | ok | bad => trivial
  | okL es t =>
   intro ha
   exact h3 fun x hx => by
    rcases List.mem_append.1 hx with hx | hx
    · exact ha x hx
    · simp at hx;subst hx;exact h1
 | lstEnd h hd ih =>
  intro hw ha x hx
  rcases List.mem_append.1 hx with hx | hx
  · exact ha x hx
  · simp at hx;subst hx;exact (ih hw (Int.le_refl _) (by decide)).1
 | @expr o r ts ts' l res h h2 ih ih2 =>
  intro hw
  have h1:=ih hw
  have h3:=ih2 (suf_all h.suf hw)
  cases res with
  | ok e t => exact fun k1 k2 => h3 k1 k2 fun c t _ => ⟨11,k2,by have:=(rkW_bd c).2;omega,h1⟩
  | okL | bad => trivial
 | @loopEnd o r l c ts hr =>
  intro _ k1 k2 hl
  obtain ⟨q,q1,q2,q3⟩:=hl c ts rfl
  exact ⟨q3.mono (Nat.le_refl _) q1,by rintro c' t' e;cases e;exact hr⟩
 | @loopMore o r l e c ts ts' res hr h h2 ih ih2 =>
  intro hw
  have h1:=ih fun w h => hw w (List.mem_cons_of_mem _ h)
  have h3:=ih2 (suf_all h.suf fun w h => hw w (List.mem_cons_of_mem _ h))
  cases res with
  | okL | bad => trivial
  | ok x t =>
   intro k1 k2 hl
   obtain ⟨q,q1,q2,q3⟩:=hl c ts rfl
   have hb:=rkW_bd c
   have hc:=rkW_ne (w:=c) (by omega)
   obtain ⟨j,j1,j2,j3,-⟩:=op_rank hc.2
   have hj : rkW c = rnkZ j:=by rw [← j3];unfold rkW;rw [if_pos hc.1]
   obtain ⟨g1,g2⟩:=h1 (by omega) (by omega)
   refine h3 k1 k2 fun c2 t2 e2 => ⟨rkW c,hr,by have:=g2 c2 t2 e2;omega,?_⟩
   rw [j3,hj]
   rw [hj] at g1 q2
   exact .two j1 j2 (Int.le_refl _) (q3.mono (Nat.le_refl _) q2) g1
def lens : List Wd → Nat
 | [] => 0
 | w :: r => w.t.length + lens r
def Ex.wt (x : Ex) : Nat:=x.txt.length + if x.k = 6 then 2 else 0
def wtL : List Ex → Nat
 | [] => 0
 | x :: r => x.wt + 2 + wtL r
theorem wtL_append : ∀ l m : List Ex,wtL (l ++ m) = wtL l + wtL m
 | [],m => by simp [wtL]
 | x :: r,m => by simp only [List.cons_append,wtL,wtL_append r m];omega
theorem cntL_append : ∀ l m : List Ex,Ex.cntL (l ++ m) = Ex.cntL l + Ex.cntL m
 | [],m => by simp [Ex.cntL]
 | x :: r,m => by simp only [List.cons_append,Ex.cntL,cntL_append r m];omega
theorem txtAt_le (x : Ex) (r : Int) : (x.txtAt r).length ≤ x.wt:=by
 unfold Ex.wt Ex.txtAt partT
 by_cases h : x.k = 6
 · rw [if_pos h]
   split
   · simp
   · omega
 · have : (x.k == 6) = false:=by simpa using h
   rw [this,if_neg h]
   simp
theorem wt_not {x : Ex} (h : x.k ≠ 6) : x.wt = x.txt.length:=by unfold Ex.wt;rw [if_neg h];rfl
theorem rest_le : ∀ ks : List Ex,((Ex.kds ks).flatMap fun y => 44 :: 32 :: y.2.2).length ≤ wtL ks
 | [] => by simp [Ex.kds,wtL]
 | x :: r => by
  have:=rest_le r
  have h2 : x.txt.length ≤ x.wt:=by unfold Ex.wt;omega
  simp only [Ex.kds,List.flatMap_cons,List.length_append,List.length_cons,wtL]
  omega
theorem row_le (ks : List Ex) : (rowK (Ex.kds ks)).length ≤ wtL ks:=by
 cases ks with
 | nil => simp [Ex.kds,rowK,wtL]
 | cons x r =>
  have:=rest_le r
  have h2 : x.txt.length ≤ x.wt:=by unfold Ex.wt;omega
  simp only [Ex.kds,rowK,List.length_append,wtL]
  omega
def WtPost : Job → List Wd → Res → Prop
 | .thing,ts,.ok e ts' => e.wt + 5 * lens ts' ≤ 5 * lens ts ∧ e.cnt + ts'.length ≤ ts.length
 | .wth _,ts,.ok e ts' => e.wt + 5 * lens ts' ≤ 5 * lens ts ∧ e.cnt + ts'.length ≤ ts.length
 | .beh k,ts,.ok e ts' => k = 4 ∨ k = 5 → (∀ w t,ts = w :: t → 1 ≤ w.t.length) → e.wt + 5 * lens ts' ≤ 5 * lens ts ∧ e.cnt + ts'.length ≤ ts.length
 | .nam,ts,.ok e ts' => (∀ w t,ts = w :: t → 1 ≤ w.t.length) → e.wt + 5 * lens ts' ≤ 5 * lens ts ∧ e.cnt + ts'.length ≤ ts.length
 | .expr r,ts,.ok e ts' => 1 ≤ r → e.wt + 5 * lens ts' ≤ 5 * lens ts ∧ e.cnt + ts'.length ≤ ts.length
 | .loop r l,ts,.ok e ts' => 1 ≤ r → e.wt + 5 * lens ts' ≤ 5 * lens ts + l.wt ∧ e.cnt + ts'.length ≤ ts.length + l.cnt
 | .giv,ts,.okL es ts' => wtL es + 5 * lens ts' ≤ 5 * lens ts + 2 ∧ Ex.cntL es + ts'.length + 1 ≤ ts.length
 | .list acc,ts,.okL es ts' => wtL es + 5 * lens ts' ≤ 5 * lens ts + wtL acc + 2 ∧ Ex.cntL es + ts'.length ≤ ts.length + Ex.cntL acc
 | _,_,_ => True
theorem sgnZ_nat {j : Nat} (h : j < 19) : (sgnZ (j : Int)).data.toList = sgB j:=by
 unfold sgnZ sgB
 rw [if_pos (by omega)]
 simp
theorem lens_suf : ∀ {a b : List Wd},a <:+ b → lens a ≤ lens b:=by
 rintro a b ⟨p,rfl⟩
 induction p with
 | nil => exact Nat.le_refl _
 | cons x p ih => simp only [List.cons_append,lens];omega
theorem P.wt {o : Nat} {j : Job} {ts : List Wd} {r : Res} (h : P o j ts r) : (∀ w ∈ ts,WdOk w) → WtPost j ts r:=by
 induction h with
 | @num o w ts hk =>
  intro hw
  have:=(hw w (by simp)).2.1 hk
  refine ⟨?_,by simp [Ex.cnt,Ex.cntL];omega⟩
  rw [wt_not (by simp [Ex.k]),txt_num,← this.2.2]
  simp only [lens]
  omega
 | @tru o w ts hk ht =>
  intro _
  refine ⟨?_,by simp [Ex.cnt,Ex.cntL];omega⟩
  rw [wt_not (by simp [Ex.k]),txt_truth]
  simp only [lens,ht]
  simp [truB]
  omega
 | @fls o w ts hk ht =>
  intro _
  refine ⟨?_,by simp [Ex.cnt,Ex.cntL];omega⟩
  rw [wt_not (by simp [Ex.k]),txt_truth]
  simp only [lens,ht]
  simp [flsB]
  omega
 | @neg o w ts r hs h ih =>
  intro hw
  have:=ih hw
  cases r with
  | ok e t => exact this (.inl rfl) (by rintro w' t' e;cases e;rw [hs.2];decide)
  | okL | bad => trivial
 | @not o w ts r hs h ih =>
  intro hw
  have:=ih hw
  cases r with
  | ok e t => exact this (.inr rfl) (by rintro w' t' e;cases e;rw [hs.2];decide)
  | okL | bad => trivial
 | @par o w ts r hs h ih =>
  intro hw
  have:=ih hw
  cases r with
  | ok e t => exact this
  | okL | bad => trivial
 | @name o w ts r hs hk h ih =>
  intro hw
  have:=ih hw
  cases r with
  | ok e t => exact this (by rintro w' t' e;cases e;exact (hw w (by simp)).2.2 (by rw [hs];decide))
  | okL | bad => trivial
 | stray | behLim | behBad | wthLim | wthNo | wthBad | namElemBad | namCallBad | givLim | givNo | givBad | lstBad | exprBad | loopBad => intro _;trivial
 | @behOk o k w ts ts' e ho h ih =>
  intro hw hk hl
  have h1:=ih fun w h => hw w (List.mem_cons_of_mem _ h)
  have h2:=hl _ _ rfl
  have h3:=txtAt_le e 11
  refine ⟨?_,?_⟩
  · have : (Ex.mk k 0 0 [] [e] w.a).wt = 1 + (e.txtAt 11).length:=by
     rcases hk with rfl | rfl
     · rw [wt_not (by simp [Ex.k]),txt_neg,List.length_cons];omega
     · rw [wt_not (by simp [Ex.k]),txt_not,List.length_cons];omega
    rw [this]
    have:=h1.1
    simp only [lens]
    omega
  · have:=h1.2
    simp only [Ex.cnt,Ex.cntL,List.length_cons]
    omega
 | @wthOk o c w d ts ts' e ho h hd ih =>
  intro hw
  have h1:=ih (fun w h => hw w (List.mem_cons_of_mem _ h)) (Int.le_refl _)
  simp only [WtPost,lens,List.length_cons] at h1 ⊢
  omega
 | @namVar o w c ts h1 h2 =>
  intro _ hn
  have:=hn _ _ rfl
  refine ⟨?_,by simp [Ex.cnt,Ex.cntL];omega⟩
  rw [wt_not (by simp [Ex.k]),txt_var]
  simp only [lens]
  omega
 | @namElem o w c ts ts' e hs h ih =>
  intro hw hn
  have h1:=ih fun w h => hw w (List.mem_cons_of_mem _ h)
  have h2:=hn _ _ rfl
  refine ⟨?_,?_⟩
  · have h3 : e.txt.length ≤ e.wt:=by unfold Ex.wt;omega
    have:=h1.1
    rw [wt_not (by simp [Ex.k]),txt_elem]
    simp only [lens,List.length_append,List.length_cons,List.length_nil] at this ⊢
    omega
  · have:=h1.2
    simp only [Ex.cnt,Ex.cntL,List.length_cons] at this ⊢
    omega
 | @namCall o w c ts ts' es hs h ih =>
  intro hw hn
  have h1:=ih fun w h => hw w (List.mem_cons_of_mem _ h)
  have h2:=hn _ _ rfl
  refine ⟨?_,?_⟩
  · have h3:=row_le es
    have:=h1.1
    rw [wt_not (by simp [Ex.k]),txt_call]
    simp only [lens,List.length_append,List.length_cons,List.length_nil] at this ⊢
    omega
  · have:=h1.2
    simp only [Ex.cnt,List.length_cons] at this ⊢
    omega
 | @givNone o w d ts ho hd =>
  intro _
  simp only [WtPost,wtL,Ex.cntL,lens,List.length_cons]
  omega
 | @givSome o w d f ts ts' es ho hd h hf ih =>
  intro hw
  have h1:=ih fun w h => hw w (List.mem_cons_of_mem _ h)
  simp only [WtPost,wtL,Ex.cntL,lens,List.length_cons] at h1 ⊢
  omega
 | @lstMore o d ts ts' acc e r h hd h2 ih ih2 =>
  intro hw
  have h1:=ih hw (Int.le_refl _)
  have h3:=ih2 (suf_all ((List.suffix_cons _ _).trans h.suf) hw)
  cases r with
  | ok | bad => trivial
  | okL es t =>
   have hl : d.t.length = 1:=by rw [hd.2];rfl
   simp only [WtPost,wtL,wtL_append,cntL_append,Ex.cntL,lens,List.length_cons] at h1 h3 ⊢
   omega
 | @lstEnd o d ts ts' acc e h hd ih =>
  intro hw
  have h1:=ih hw (Int.le_refl _)
  simp only [WtPost,wtL,wtL_append,cntL_append,Ex.cntL,lens,List.length_cons] at h1 ⊢
  omega
 | @expr o r ts ts' l res h h2 ih ih2 =>
  intro hw
  have h1:=ih hw
  have h3:=ih2 (suf_all h.suf hw)
  cases res with
  | ok e t =>
   intro hr
   have h4:=h3 hr
   simp only [WtPost] at h1
   omega
  | okL | bad => trivial
 | @loopEnd o r l c ts hr =>
  intro _ _
  omega
 | @loopMore o r l e c ts ts' res hr h h2 ih ih2 =>
  intro hw
  have h1:=ih fun w h => hw w (List.mem_cons_of_mem _ h)
  have h3:=ih2 (suf_all h.suf fun w h => hw w (List.mem_cons_of_mem _ h))
  cases res with
  | okL | bad => trivial
  | ok x t =>
   intro h1r
   have h4:=h3 h1r
   have h1:=h1 (by omega)
   have hc : 1 ≤ rkW c:=by omega
   obtain ⟨j,j1,-,j3,j4⟩:=op_rank (rkW_ne hc).2
   have hlc:=(hw c (by simp)).2.2 (by rw [(rkW_ne hc).1];decide)
   have hop : (Ex.mk 6 (opB c.t) 0 [] [l,e] l.a).wt ≤ l.wt + e.wt + 5 * c.t.length:=by
    have e1:=txtAt_le l (rnkZ (opB c.t))
    have e2:=txtAt_le e (rnkZ (opB c.t) + 1)
    have e3 : (opT (opB c.t)).length = c.t.length + 2:=by
     unfold opT
     rw [j3,sgnZ_nat j1,j4]
     simp
    unfold Ex.wt at e1 e2 ⊢
    rw [txt_two,if_pos (show (Ex.mk 6 (opB c.t) 0 [] [l,e] l.a).k = 6 from rfl)]
    simp only [List.length_append,e3]
    omega
   have h5 : (Ex.mk 6 (opB c.t) 0 [] [l,e] l.a).cnt = 1 + l.cnt + e.cnt:=by simp only [Ex.cnt,Ex.cntL];omega
   simp only [lens,List.length_cons] at h1 h4 ⊢
   omega
def nmW (ts : List Wd) : List (List UInt8):=(ts.filter fun w => (w.k == 0) && !keyB w.t).map (·.t)
mutual
def Ex.nms : Ex → List (List UInt8)
 | .mk k _ _ nm ks _ => (if k = 2 ∨ k = 3 ∨ k = 7 then [nm] else []) ++ Ex.nmsL ks
def Ex.nmsL : List Ex → List (List UInt8)
 | [] => []
 | x :: r => Ex.nms x ++ Ex.nmsL r
end
theorem nmsL_append : ∀ l m : List Ex,Ex.nmsL (l ++ m) = Ex.nmsL l ++ Ex.nmsL m
 | [],m => by simp [Ex.nmsL]
 | x :: r,m => by simp only [List.cons_append,Ex.nmsL,nmsL_append r m,List.append_assoc]
theorem nmW_not {w : Wd} (h : w.k ≠ 0) (ts : List Wd) : nmW (w :: ts) = nmW ts:=by
 have : (w.k == 0) = false:=by simpa using h
 simp [nmW,this]
theorem nmW_key {w : Wd} (h : keyB w.t = true) (ts : List Wd) : nmW (w :: ts) = nmW ts:=by simp [nmW,h]
theorem nmW_name {w : Wd} (h : w.k = 0) (h2 : keyB w.t = false) (ts : List Wd) : nmW (w :: ts) = w.t :: nmW ts:=by simp [nmW,h,h2]
theorem Sg.ne0 {w : Wd} {t : List UInt8} (h : Sg w t) : w.k ≠ 0:=by rw [h.1];decide
def NmPost : Job → List Wd → Res → Prop
 | .thing,ts,.ok e ts' => nmW ts = e.nms ++ nmW ts'
 | .wth _,ts,.ok e ts' => (∀ w t,ts = w :: t → w.k ≠ 0) → nmW ts = e.nms ++ nmW ts'
 | .beh k,ts,.ok e ts' => k = 4 ∨ k = 5 → (∀ w t,ts = w :: t → w.k ≠ 0) → nmW ts = e.nms ++ nmW ts'
 | .nam,ts,.ok e ts' => (∀ w t,ts = w :: t → w.k = 0 ∧ keyB w.t = false) → nmW ts = e.nms ++ nmW ts'
 | .expr r,ts,.ok e ts' => 1 ≤ r → nmW ts = e.nms ++ nmW ts'
 | .loop r l,ts,.ok e ts' => 1 ≤ r → l.nms ++ nmW ts = e.nms ++ nmW ts'
 | .giv,ts,.okL es ts' => (∀ w t,ts = w :: t → w.k ≠ 0) → nmW ts = Ex.nmsL es ++ nmW ts'
 | .list acc,ts,.okL es ts' => Ex.nmsL acc ++ nmW ts = Ex.nmsL es ++ nmW ts'
 | _,_,_ => True
theorem P.nm {o : Nat} {j : Job} {ts : List Wd} {r : Res} (h : P o j ts r) : NmPost j ts r:=by
 induction h with
 | @num o w ts hk => exact (nmW_not (by rw [hk];decide) ts).trans rfl
 | @tru o w ts hk ht => exact (nmW_key (by rw [ht];decide) ts).trans rfl
 | @fls o w ts hk ht => exact (nmW_key (by rw [ht];decide) ts).trans rfl
 | @neg o w ts r hs h ih =>
  cases r with
  | ok e t => exact ih (.inl rfl) (by rintro w' t' e;cases e;exact hs.ne0)
  | okL | bad => trivial
 | @not o w ts r hs h ih =>
  cases r with
  | ok e t => exact ih (.inr rfl) (by rintro w' t' e;cases e;exact hs.ne0)
  | okL | bad => trivial
 | @par o w ts r hs h ih =>
  cases r with
  | ok e t => exact ih (by rintro w' t' e;cases e;exact hs.ne0)
  | okL | bad => trivial
 | @name o w ts r hs hk h ih =>
  cases r with
  | ok e t => exact ih (by rintro w' t' e;cases e;exact ⟨hs,hk⟩)
  | okL | bad => trivial
 | stray | behLim | behBad | wthLim | wthNo | wthBad | namElemBad | namCallBad | givLim | givNo | givBad | lstBad | exprBad | loopBad => trivial
 | @behOk o k w ts ts' e ho h ih =>
  intro hk hn
  rw [nmW_not (hn _ _ rfl)]
  have : (Ex.mk k 0 0 [] [e] w.a).nms = e.nms:=by
   simp only [Ex.nms,Ex.nmsL]
   rw [if_neg (by omega)]
   simp
  rw [this]
  exact ih
 | @wthOk o c w d ts ts' e ho h hd ih =>
  intro hn
  rw [nmW_not (hn _ _ rfl),ih (Int.le_refl _),nmW_not hd.ne0]
 | @namVar o w c ts h1 h2 =>
  intro hn
  rw [nmW_name (hn _ _ rfl).1 (hn _ _ rfl).2]
  rfl
 | @namElem o w c ts ts' e hs h ih =>
  intro hn
  rw [nmW_name (hn _ _ rfl).1 (hn _ _ rfl).2,ih (by rintro w' t' e;cases e;exact hs.ne0)]
  simp [Ex.nms,Ex.nmsL]
 | @namCall o w c ts ts' es hs h ih =>
  intro hn
  rw [nmW_name (hn _ _ rfl).1 (hn _ _ rfl).2,ih (by rintro w' t' e;cases e;exact hs.ne0)]
  simp [Ex.nms]
 | @givNone o w d ts ho hd =>
  intro hn
  rw [nmW_not (hn _ _ rfl),nmW_not hd.ne0]
  rfl
 | @givSome o w d f ts ts' es ho hd h hf ih =>
  intro hn
  simp only [NmPost,Ex.nmsL,List.nil_append] at ih
  rw [nmW_not (hn _ _ rfl),ih,nmW_not hf.ne0]
 | @lstMore o d ts ts' acc e r h hd h2 ih ih2 =>
  cases r with
  | ok | bad => trivial
  | okL es t =>
   simp only [NmPost,nmsL_append,Ex.nmsL,List.append_nil] at ih2 ⊢
   rw [ih (Int.le_refl _),nmW_not hd.ne0,← ih2,List.append_assoc]
 | @lstEnd o d ts ts' acc e h hd ih =>
  simp only [NmPost,nmsL_append,Ex.nmsL,List.append_nil]
  rw [ih (Int.le_refl _),List.append_assoc]
 | @expr o r ts ts' l res h h2 ih ih2 =>
  cases res with
  | ok e t =>
   intro hr
   rw [← ih2 hr,ih]
  | okL | bad => trivial
 | loopEnd hr => intro _;rfl
 | @loopMore o r l e c ts ts' res hr h h2 ih ih2 =>
  cases res with
  | okL | bad => trivial
  | ok x t =>
   intro h1
   have hc:=rkW_ne (w:=c) (by omega)
   rw [← ih2 h1,nmW_not (by rw [hc.1];decide),ih (by omega)]
   simp [Ex.nms,Ex.nmsL]
open Go Go.RowKit
inductive Nums : Ex → Prop
 | mk {k o n : Int} {nm : List UInt8} {ks : List Ex} {a : Nat} : -9223372036854775808 ≤ n → n ≤ 9223372036854775807 → (∀ y,y ∈ ks → Nums y) → Nums (.mk k o n nm ks a)
theorem Nums.n {x : Ex} (h : Nums x) : -9223372036854775808 ≤ x.n ∧ x.n ≤ 9223372036854775807:=by
 cases h with
 | mk h1 h2 _ => exact ⟨h1,h2⟩
theorem Nums.kid {x y : Ex} (h : Nums x) (hy : y ∈ x.ks) : Nums y:=by
 cases h with
 | mk _ _ h3 => exact h3 y hy
theorem Fit.nums {o : Nat} {r : Int} {x : Ex} (h : Fit o r x) : Nums x:=by
 induction h with
 | num h1 h2 => exact .mk (by omega) h2 (by simp)
 | tru | fls => exact .mk (by decide) (by decide) (by simp)
 | var => exact .mk (by decide) (by decide) (by simp)
 | elem _ _ _ ih | neg _ _ ih | not _ _ ih => exact .mk (by decide) (by decide) (by simpa using ih)
 | two _ _ _ _ _ ih ih2 => exact .mk (by decide) (by decide) (by simp;exact ⟨ih,ih2⟩)
 | brk _ _ _ _ ih => exact ih
 | call _ _ _ ih => exact .mk (by decide) (by decide) ih
theorem bldAt_stay {B b : Nat} {p : Value} {bs : List Value} {w w' : World} (h : Lib.BuilderAtF 62 5 B b p bs w) (k : Below w.heap.size w w') : Lib.BuilderAtF 62 5 B b p bs w':=by
 have hlt:=h.lt
 obtain ⟨hB,v,hb,hown,hne⟩:=h
 exact ⟨hB,v,(k.block b hlt).trans hb,hown.kept (row:=none) ⟨k.os,k.tape,k.output,k.size,fun i hi _ => k.block i hi⟩ (by cases hv : v.ownBlock <;> simp),hne⟩
theorem Bld.stay {B b : Nat} {bs : List Value} {w w' : World} (h : Bld B b bs w) (k : Below w.heap.size w w') : Bld B b bs w' :=
 h.imp (fun h => bldAt_stay h k) fun h => bldAt_stay h k
theorem rowK_T (l : List Ex) : rowK (l.map fun y => (y.k,y.op,y.txt)) = rowT Ex.txt l:=by
 cases l with
 | nil => rfl
 | cons x r => simp only [List.map_cons,rowK,rowT,List.flatMap_map]
theorem oneK_T (l : List Ex) : oneK (l.map fun y => (y.k,y.op,y.txt)) = l.flatMap fun y => partT (y.k == 6) y.txt:=by simp only [oneK,List.flatMap_map]
theorem twoK_T (o : Int) (l : List Ex) : twoK o (l.map fun y => (y.k,y.op,y.txt)) = twoT (fun y => partT ((y.k == 6) && decide (rnkZ y.op < rnkZ o)) y.txt) (fun y => opT o ++ partT ((y.k == 6) && decide (rnkZ y.op ≤ rnkZ o)) y.txt) l:=by
 cases l with
 | nil => rfl
 | cons x r => simp only [List.map_cons,twoK,twoT,List.flatMap_map]
theorem txt0 {x : Ex} (h : x.k = 0) : x.txt = Lib.itoa x.n:=by rw [txt_parts,h];rfl
theorem txt1 {x : Ex} (h : x.k = 1) : x.txt = if x.n = 0 then flsB else truB:=by rw [txt_parts,h];rfl
theorem txt2 {x : Ex} (h : x.k = 2) : x.txt = x.nm:=by rw [txt_parts,h];rfl
theorem txt3 {x : Ex} (h : x.k = 3) : x.txt = x.nm ++ [91] ++ rowT Ex.txt x.ks ++ [93]:=by
 rw [txt_parts,h,← rowK_T]
 show x.nm ++ 91 :: (_ ++ [93]) = _
 simp
theorem txt7 {x : Ex} (h : x.k = 7) : x.txt = x.nm ++ [40] ++ rowT Ex.txt x.ks ++ [41]:=by
 rw [txt_parts,h,← rowK_T]
 show x.nm ++ 40 :: (_ ++ [41]) = _
 simp
theorem txt4 {x : Ex} (h : x.k = 4) : x.txt = 45 :: x.ks.flatMap fun y => partT (y.k == 6) y.txt:=by rw [txt_parts,h,← oneK_T];rfl
theorem txt5 {x : Ex} (h : x.k = 5) : x.txt = 33 :: x.ks.flatMap fun y => partT (y.k == 6) y.txt:=by rw [txt_parts,h,← oneK_T];rfl
theorem txt6 {x : Ex} (h : x.k = 6) : x.txt = twoT (fun y => partT ((y.k == 6) && decide (rnkZ y.op < rnkZ x.op)) y.txt) (fun y => opT x.op ++ partT ((y.k == 6) && decide (rnkZ y.op ≤ rnkZ x.op)) y.txt) x.ks:=by rw [txt_parts,h,← twoK_T];rfl
theorem txtN {x : Ex} (h : x.k ≠ 0 ∧ x.k ≠ 1 ∧ x.k ≠ 2 ∧ x.k ≠ 3 ∧ x.k ≠ 7 ∧ x.k ≠ 4 ∧ x.k ≠ 5 ∧ x.k ≠ 6) : x.txt = []:=by
 rw [txt_parts]
 unfold txtOf
 rw [if_neg h.1,if_neg h.2.1,if_neg h.2.2.1,if_neg h.2.2.2.1,if_neg h.2.2.2.2.1,if_neg h.2.2.2.2.2.1,if_neg h.2.2.2.2.2.2.1,if_neg h.2.2.2.2.2.2.2]
theorem sgn_short (o : Int) : (sgnZ o).size ≤ 2:=by
 unfold sgnZ
 split
 · rename_i h
   obtain ⟨n,rfl⟩:=Int.eq_ofNat_of_zero_le h.1
   have hn : n < 19:=by omega
   have : ∀ n : Nat,n < 19 → (sgn n).size ≤ 2:=by decide
   exact this n hn
 · decide
theorem truth_any (n : Int) (w : World) : Calls Tryd.prog 82 #[.int .i64 n] w fun e w' => e = .returned (.string (bstr (if n = 0 then flsB else truB))) ∧ w' = w:=by
 by_cases h : n = 0
 · have hb : (n == 0) = true:=by simpa using h
   rw [if_pos h]
   clear h
   go_enter Tryd.func82,Tryd.ntmps82
   go_wp2
   go_ret
   exact ⟨rfl,rfl⟩
 · have hb : (n == 0) = false:=by simpa using h
   rw [if_neg h]
   clear h
   go_enter Tryd.func82,Tryd.ntmps82
   go_wp2
   go_ret
   exact ⟨rfl,rfl⟩
theorem bld_new (w : World) (B : Nat) (hB : B = w.heap.size) : Bld B B (Lib.byteCells []) (w.alloc (.cells #[.pointer none,.slice none 0 0] 62)):=by
 subst hB
 exact Lib.IsBuilderF.of (Lib.fresh_isBuilder _ _ w)
def ShowGoal (N : Nat) : Prop:=∀ x : Ex,x.cnt < N → x.cnt < 1000000000 → Nums x → ∀ B b,Shows x x.txt B b
theorem show_0 (N : Nat) (IH : Hid (ShowGoal N)) (x : Ex) (hN : x.cnt < N + 1) (h9 : x.cnt < 1000000000) (hnum : Hid (Nums x)) (B b : Nat) (hk : x.k = 0) : Shows x x.txt B b:=by
 intro p c l w hx hb hB hL hl
 rw [txt0 hk] at hl ⊢
 have h0 : (x.k == 0) = true:=by (rw [hk];rfl)
 clear hk
 have HL:=hid hl
 have HX:=hid hx
 replace hb:=hid hb
 obtain ⟨g0,g1⟩:=hnum.out.n
 have G0:=hid g0
 have G1:=hid g1
 have hd : Hid ((dig x.n).data.toList = Lib.itoa x.n):=hid rfl
 clear hx hl g0 g1 IH
 go_enter Tryd.func66,Tryd.ntmps66
 go_wp2_with (first
  | (go_at_call 48;(with_reducible refine (digits_any x.n _ (hid (LB.laid (hL.b (by (with_reducible repeat first | exact Below.refl _ _ | refine Below.alloc ?_ (by first | omega | (simp;omega)) _ | refine Below.drewN ?_ _ | refine Below.drew ?_ | refine Below.setCell ?_ (by first | omega | (simp;omega)) _ | refine Below.trans ?_ (by assumption)))))) G0.out G1.out).mono ?_);rintro e' w1 ⟨rfl,hb1⟩;have hz1:=hb1.size;(try simp at hz1);have HB1:=hid ((hb.out.alloc _).stay hb1);have hB1 : Below B w w1:=((Below.refl B w).alloc hB _).trans (hb1.mono (by simp;omega));have hK1 : KeptE w w1:=((KeptE.refl w).alloc _).below hb1;clear hb1)
  | (go_at_call 47;(with_reducible refine (write_txt B b l (dig x.n) _ (by (with_reducible repeat first | exact HB1.out | refine Bld.alloc ?_ _ | refine Bld.drewN ?_ _ | refine Bld.drew ?_)) (by rw [hd.out];exact HL.out) (by first | omega | (simp;omega))).mono ?_);rintro e' w2 ⟨rfl,hb2,hB2,hk2⟩))
 go_end0
 exact ⟨rfl,by rw [← hd.out];exact hb2,by (with_reducible repeat first | exact Below.refl _ _ | refine Below.alloc ?_ (by first | omega | (simp;omega)) _ | refine Below.drewN ?_ _ | refine Below.drew ?_ | refine Below.setCell ?_ (by first | omega | (simp;omega)) _ | refine Below.trans ?_ (by assumption)),by (with_reducible repeat first | exact KeptE.refl _ | refine KeptE.alloc ?_ _ | refine KeptE.drewN ?_ _ | refine KeptE.drew ?_ | refine KeptE.set ?_ (by first | omega | (simp;omega)) _ _ | refine KeptE.step ?_ (by assumption))⟩
theorem show_1 (N : Nat) (IH : Hid (ShowGoal N)) (x : Ex) (hN : x.cnt < N + 1) (h9 : x.cnt < 1000000000) (hnum : Hid (Nums x)) (B b : Nat) (hk : x.k = 1) : Shows x x.txt B b:=by
 intro p c l w hx hb hB hL hl
 rw [txt1 hk] at hl ⊢
 have h0 : (x.k == 0) = false:=by (rw [hk];rfl)
 have h1 : (x.k == 1) = true:=by (rw [hk];rfl)
 clear hk
 obtain ⟨T,hT⟩ : ∃ T,T = if x.n = 0 then flsB else truB:=⟨_,rfl⟩
 rw [← hT] at hl ⊢
 have HT:=hid hT
 have HL:=hid hl
 have HX:=hid hx
 replace hb:=hid hb
 have ht : ∀ W,Calls Tryd.prog 82 #[.int .i64 x.n] W fun e w' => e = .returned (.string (bstr T)) ∧ w' = W:=fun W => by rw [hT];exact truth_any x.n W
 have HC:=hid ht
 have hd : Hid ((bstr T).data.toList = T):=hid rfl
 clear hx hl IH hT ht
 go_enter Tryd.func66,Tryd.ntmps66
 go_wp2_with (first
  | (go_at_call 82;(with_reducible refine (HC.out _).mono ?_);rintro e' w1 ⟨rfl,rfl⟩)
  | (go_at_call 47;(with_reducible refine (write_txt B b l (bstr T) _ (by (with_reducible repeat first | exact hb.out | refine Bld.alloc ?_ _ | refine Bld.drewN ?_ _ | refine Bld.drew ?_)) (by rw [hd.out];exact HL.out) (by first | omega | (simp;omega))).mono ?_);rintro e' w2 ⟨rfl,hb2,hB2,hk2⟩))
 go_end0
 exact ⟨rfl,by (rw [hd.out] at hb2;exact hb2),by (with_reducible repeat first | exact Below.refl _ _ | refine Below.alloc ?_ (by first | omega | (simp;omega)) _ | refine Below.drewN ?_ _ | refine Below.drew ?_ | refine Below.setCell ?_ (by first | omega | (simp;omega)) _ | refine Below.trans ?_ (by assumption)),by (with_reducible repeat first | exact KeptE.refl _ | refine KeptE.alloc ?_ _ | refine KeptE.drewN ?_ _ | refine KeptE.drew ?_ | refine KeptE.set ?_ (by first | omega | (simp;omega)) _ _ | refine KeptE.step ?_ (by assumption))⟩
theorem show_2 (N : Nat) (IH : Hid (ShowGoal N)) (x : Ex) (hN : x.cnt < N + 1) (h9 : x.cnt < 1000000000) (hnum : Hid (Nums x)) (B b : Nat) (hk : x.k = 2) : Shows x x.txt B b:=by
 intro p c l w hx hb hB hL hl
 rw [txt2 hk] at hl ⊢
 have h0 : (x.k == 0) = false:=by (rw [hk];rfl)
 have h1 : (x.k == 1) = false:=by (rw [hk];rfl)
 have h2 : (x.k == 2) = true:=by (rw [hk];rfl)
 clear hk
 have HL:=hid hl
 have HX:=hid hx
 replace hb:=hid hb
 have hd : Hid ((bstr x.nm).data.toList = x.nm):=hid rfl
 clear hx hl IH
 go_enter Tryd.func66,Tryd.ntmps66
 go_wp2_with (go_at_call 47;(with_reducible refine (write_txt B b l (bstr x.nm) _ (by (with_reducible repeat first | exact hb.out | refine Bld.alloc ?_ _ | refine Bld.drewN ?_ _ | refine Bld.drew ?_)) (by rw [hd.out];exact HL.out) (by first | omega | (simp;omega))).mono ?_);rintro e' w2 ⟨rfl,hb2,hB2,hk2⟩)
 go_end0
 exact ⟨rfl,by (rw [hd.out] at hb2;exact hb2),by (with_reducible repeat first | exact Below.refl _ _ | refine Below.alloc ?_ (by first | omega | (simp;omega)) _ | refine Below.drewN ?_ _ | refine Below.drew ?_ | refine Below.setCell ?_ (by first | omega | (simp;omega)) _ | refine Below.trans ?_ (by assumption)),by (with_reducible repeat first | exact KeptE.refl _ | refine KeptE.alloc ?_ _ | refine KeptE.drewN ?_ _ | refine KeptE.drew ?_ | refine KeptE.set ?_ (by first | omega | (simp;omega)) _ _ | refine KeptE.step ?_ (by assumption))⟩
theorem show_3 (N : Nat) (IH : Hid (ShowGoal N)) (x : Ex) (hN : x.cnt < N + 1) (h9 : x.cnt < 1000000000) (hnum : Hid (Nums x)) (B b : Nat) (hk : x.k = 3) : Shows x x.txt B b:=by
 intro p c l w hx hb hB hL hl
 rw [txt3 hk] at hl ⊢
 have h0 : (x.k == 0) = false:=by (rw [hk];rfl)
 have h1 : (x.k == 1) = false:=by (rw [hk];rfl)
 have h2 : (x.k == 2) = false:=by (rw [hk];rfl)
 have h3 : (x.k == 3) = true:=by (rw [hk];rfl)
 clear hk
 have hkn:=ks_lt x
 have hn9 : x.ks.length < 1000000000:=by omega
 have hS : Hid (∀ y ∈ x.ks,Shows y y.txt B b):=hid fun y hy => by
  have h1:=cntL_mem hy
  have h2 : x.cnt = 1 + Ex.cntL x.ks:=by cases x;simp only [Ex.cnt,Ex.ks]
  exact IH.out y (by omega) (by omega) (hnum.out.kid hy) B b
 obtain ⟨n,hn'⟩ : ∃ n,n = x.ks.length:=⟨_,rfl⟩
 rw [← hn'] at hx hn9 ⊢
 have hn : Hid (x.ks.length = n):=hid hn'.symm
 have HX:=hid hx
 replace hb:=hid hb
 have h1 : Hid ((bstr x.nm ++ ⟨#[91]⟩).data.toList = x.nm ++ [91]):=hid (by simp [bstr])
 have h2 : Hid ((⟨#[93]⟩ : ByteArray).data.toList = [93]):=hid rfl
 have HL : Hid (l.length + (x.nm ++ [91]).length + (rowT Ex.txt x.ks).length + ([93] : List UInt8).length ≤ 140737488355328):=hid (by simp only [List.length_append] at hl ⊢;omega)
 clear hx hl IH hn' hkn
 go_enter Tryd.func66,Tryd.ntmps66
 go_wp2_with (go_at_call 83;(with_reducible refine (row_any x Ex.txt ⟨#[91]⟩ ⟨#[93]⟩ B b n p c l _ hn hn9 hS (hid (by (with_reducible repeat first | exact HX.out | refine IsEx.alloc ?_ _ | refine IsEx.drewN ?_ _ | refine IsEx.drew ?_ | (refine IsEx.set ?_ ?_ _ _;rotate_left;first | omega | (simp;done) | (simp;omega)) | refine IsEx.fr ?_ (by assumption) (by omega) | refine IsEx.stay ?_ (by assumption)))) (hid (by (with_reducible repeat first | exact hb.out | refine Bld.alloc ?_ _ | refine Bld.drewN ?_ _ | refine Bld.drew ?_))) (by first | omega | (simp;omega)) (hL.b (by (with_reducible repeat first | exact Below.refl _ _ | refine Below.alloc ?_ (by first | omega | (simp;omega)) _ | refine Below.drewN ?_ _ | refine Below.drew ?_ | refine Below.setCell ?_ (by first | omega | (simp;omega)) _ | refine Below.trans ?_ (by assumption)))) _ _ h1 h2 HL.out).mono ?_);rintro e' w2 ⟨rfl,hb2,hB2,hk2⟩)
 go_end0
 exact ⟨rfl,by simpa [List.append_assoc] using hb2,by (with_reducible repeat first | exact Below.refl _ _ | refine Below.alloc ?_ (by first | omega | (simp;omega)) _ | refine Below.drewN ?_ _ | refine Below.drew ?_ | refine Below.setCell ?_ (by first | omega | (simp;omega)) _ | refine Below.trans ?_ (by assumption)),by (with_reducible repeat first | exact KeptE.refl _ | refine KeptE.alloc ?_ _ | refine KeptE.drewN ?_ _ | refine KeptE.drew ?_ | refine KeptE.set ?_ (by first | omega | (simp;omega)) _ _ | refine KeptE.step ?_ (by assumption))⟩
theorem show_7 (N : Nat) (IH : Hid (ShowGoal N)) (x : Ex) (hN : x.cnt < N + 1) (h9 : x.cnt < 1000000000) (hnum : Hid (Nums x)) (B b : Nat) (hk : x.k = 7) : Shows x x.txt B b:=by
 intro p c l w hx hb hB hL hl
 rw [txt7 hk] at hl ⊢
 have h0 : (x.k == 0) = false:=by (rw [hk];rfl)
 have h1 : (x.k == 1) = false:=by (rw [hk];rfl)
 have h2 : (x.k == 2) = false:=by (rw [hk];rfl)
 have h3 : (x.k == 3) = false:=by (rw [hk];rfl)
 have h7 : (x.k == 7) = true:=by (rw [hk];rfl)
 clear hk
 have hkn:=ks_lt x
 have hn9 : x.ks.length < 1000000000:=by omega
 have hS : Hid (∀ y ∈ x.ks,Shows y y.txt B b):=hid fun y hy => by
  have h1:=cntL_mem hy
  have h2 : x.cnt = 1 + Ex.cntL x.ks:=by cases x;simp only [Ex.cnt,Ex.ks]
  exact IH.out y (by omega) (by omega) (hnum.out.kid hy) B b
 obtain ⟨n,hn'⟩ : ∃ n,n = x.ks.length:=⟨_,rfl⟩
 rw [← hn'] at hx hn9 ⊢
 have hn : Hid (x.ks.length = n):=hid hn'.symm
 have HX:=hid hx
 replace hb:=hid hb
 have h1 : Hid ((bstr x.nm ++ ⟨#[40]⟩).data.toList = x.nm ++ [40]):=hid (by simp [bstr])
 have h2 : Hid ((⟨#[41]⟩ : ByteArray).data.toList = [41]):=hid rfl
 have HL : Hid (l.length + (x.nm ++ [40]).length + (rowT Ex.txt x.ks).length + ([41] : List UInt8).length ≤ 140737488355328):=hid (by simp only [List.length_append] at hl ⊢;omega)
 clear hx hl IH hn' hkn
 go_enter Tryd.func66,Tryd.ntmps66
 go_wp2_with (go_at_call 83;(with_reducible refine (row_any x Ex.txt ⟨#[40]⟩ ⟨#[41]⟩ B b n p c l _ hn hn9 hS (hid (by (with_reducible repeat first | exact HX.out | refine IsEx.alloc ?_ _ | refine IsEx.drewN ?_ _ | refine IsEx.drew ?_ | (refine IsEx.set ?_ ?_ _ _;rotate_left;first | omega | (simp;done) | (simp;omega)) | refine IsEx.fr ?_ (by assumption) (by omega) | refine IsEx.stay ?_ (by assumption)))) (hid (by (with_reducible repeat first | exact hb.out | refine Bld.alloc ?_ _ | refine Bld.drewN ?_ _ | refine Bld.drew ?_))) (by first | omega | (simp;omega)) (hL.b (by (with_reducible repeat first | exact Below.refl _ _ | refine Below.alloc ?_ (by first | omega | (simp;omega)) _ | refine Below.drewN ?_ _ | refine Below.drew ?_ | refine Below.setCell ?_ (by first | omega | (simp;omega)) _ | refine Below.trans ?_ (by assumption)))) _ _ h1 h2 HL.out).mono ?_);rintro e' w2 ⟨rfl,hb2,hB2,hk2⟩)
 go_end0
 exact ⟨rfl,by simpa [List.append_assoc] using hb2,by (with_reducible repeat first | exact Below.refl _ _ | refine Below.alloc ?_ (by first | omega | (simp;omega)) _ | refine Below.drewN ?_ _ | refine Below.drew ?_ | refine Below.setCell ?_ (by first | omega | (simp;omega)) _ | refine Below.trans ?_ (by assumption)),by (with_reducible repeat first | exact KeptE.refl _ | refine KeptE.alloc ?_ _ | refine KeptE.drewN ?_ _ | refine KeptE.drew ?_ | refine KeptE.set ?_ (by first | omega | (simp;omega)) _ _ | refine KeptE.step ?_ (by assumption))⟩
theorem show_4 (N : Nat) (IH : Hid (ShowGoal N)) (x : Ex) (hN : x.cnt < N + 1) (h9 : x.cnt < 1000000000) (hnum : Hid (Nums x)) (B b : Nat) (hk : x.k = 4) : Shows x x.txt B b:=by
 intro p c l w hx hb hB hL hl
 rw [txt4 hk] at hl ⊢
 have h0 : (x.k == 0) = false:=by (rw [hk];rfl)
 have h1 : (x.k == 1) = false:=by (rw [hk];rfl)
 have h2 : (x.k == 2) = false:=by (rw [hk];rfl)
 have h3 : (x.k == 3) = false:=by (rw [hk];rfl)
 have h7 : (x.k == 7) = false:=by (rw [hk];rfl)
 have h4 : (x.k == 4) = true:=by (rw [hk];rfl)
 have HS : 45 = if x.k = 4 then (45 : UInt8) else 33:=by (rw [hk];rfl)
 have HSG:=hid HS
 clear hk HS
 have hkn:=ks_lt x
 have hn9 : x.ks.length < 1000000000:=by omega
 have hS : Hid (∀ y ∈ x.ks,Shows y y.txt B b):=hid fun y hy => by
  have h1:=cntL_mem hy
  have h2 : x.cnt = 1 + Ex.cntL x.ks:=by cases x;simp only [Ex.cnt,Ex.ks]
  exact IH.out y (by omega) (by omega) (hnum.out.kid hy) B b
 obtain ⟨n,hn'⟩ : ∃ n,n = x.ks.length:=⟨_,rfl⟩
 rw [← hn'] at hx hn9 ⊢
 have hn : Hid (x.ks.length = n):=hid hn'.symm
 have HX:=hid hx
 replace hb:=hid hb
 have HL : Hid (l.length + 1 + (x.ks.flatMap fun y => partT (y.k == 6) y.txt).length ≤ 140737488355328):=hid (by simp only [List.length_cons] at hl;omega)
 clear hx hl IH hn' hkn
 go_enter Tryd.func66,Tryd.ntmps66
 go_wp2_with (go_at_call 84;(with_reducible refine (one_any x Ex.txt B b n p c l _ hn hn9 hS (hid (by (with_reducible repeat first | exact HX.out | refine IsEx.alloc ?_ _ | refine IsEx.drewN ?_ _ | refine IsEx.drew ?_ | (refine IsEx.set ?_ ?_ _ _;rotate_left;first | omega | (simp;done) | (simp;omega)) | refine IsEx.fr ?_ (by assumption) (by omega) | refine IsEx.stay ?_ (by assumption)))) (hid (by (with_reducible repeat first | exact hb.out | refine Bld.alloc ?_ _ | refine Bld.drewN ?_ _ | refine Bld.drew ?_))) (by first | omega | (simp;omega)) (hL.b (by (with_reducible repeat first | exact Below.refl _ _ | refine Below.alloc ?_ (by first | omega | (simp;omega)) _ | refine Below.drewN ?_ _ | refine Below.drew ?_ | refine Below.setCell ?_ (by first | omega | (simp;omega)) _ | refine Below.trans ?_ (by assumption)))) 45 HSG.out _ (hid rfl) HL.out).mono ?_);rintro e' w2 ⟨rfl,hb2,hB2,hk2⟩)
 go_end0
 exact ⟨rfl,hb2,by (with_reducible repeat first | exact Below.refl _ _ | refine Below.alloc ?_ (by first | omega | (simp;omega)) _ | refine Below.drewN ?_ _ | refine Below.drew ?_ | refine Below.setCell ?_ (by first | omega | (simp;omega)) _ | refine Below.trans ?_ (by assumption)),by (with_reducible repeat first | exact KeptE.refl _ | refine KeptE.alloc ?_ _ | refine KeptE.drewN ?_ _ | refine KeptE.drew ?_ | refine KeptE.set ?_ (by first | omega | (simp;omega)) _ _ | refine KeptE.step ?_ (by assumption))⟩
theorem show_5 (N : Nat) (IH : Hid (ShowGoal N)) (x : Ex) (hN : x.cnt < N + 1) (h9 : x.cnt < 1000000000) (hnum : Hid (Nums x)) (B b : Nat) (hk : x.k = 5) : Shows x x.txt B b:=by
 intro p c l w hx hb hB hL hl
 rw [txt5 hk] at hl ⊢
 have h0 : (x.k == 0) = false:=by (rw [hk];rfl)
 have h1 : (x.k == 1) = false:=by (rw [hk];rfl)
 have h2 : (x.k == 2) = false:=by (rw [hk];rfl)
 have h3 : (x.k == 3) = false:=by (rw [hk];rfl)
 have h7 : (x.k == 7) = false:=by (rw [hk];rfl)
 have h4 : (x.k == 4) = false:=by (rw [hk];rfl)
 have h5 : (x.k == 5) = true:=by (rw [hk];rfl)
 have HS : 33 = if x.k = 4 then (45 : UInt8) else 33:=by (rw [hk];rfl)
 have HSG:=hid HS
 clear hk HS
 have hkn:=ks_lt x
 have hn9 : x.ks.length < 1000000000:=by omega
 have hS : Hid (∀ y ∈ x.ks,Shows y y.txt B b):=hid fun y hy => by
  have h1:=cntL_mem hy
  have h2 : x.cnt = 1 + Ex.cntL x.ks:=by cases x;simp only [Ex.cnt,Ex.ks]
  exact IH.out y (by omega) (by omega) (hnum.out.kid hy) B b
 obtain ⟨n,hn'⟩ : ∃ n,n = x.ks.length:=⟨_,rfl⟩
 rw [← hn'] at hx hn9 ⊢
 have hn : Hid (x.ks.length = n):=hid hn'.symm
 have HX:=hid hx
 replace hb:=hid hb
 have HL : Hid (l.length + 1 + (x.ks.flatMap fun y => partT (y.k == 6) y.txt).length ≤ 140737488355328):=hid (by simp only [List.length_cons] at hl;omega)
 clear hx hl IH hn' hkn
 go_enter Tryd.func66,Tryd.ntmps66
 go_wp2_with (go_at_call 84;(with_reducible refine (one_any x Ex.txt B b n p c l _ hn hn9 hS (hid (by (with_reducible repeat first | exact HX.out | refine IsEx.alloc ?_ _ | refine IsEx.drewN ?_ _ | refine IsEx.drew ?_ | (refine IsEx.set ?_ ?_ _ _;rotate_left;first | omega | (simp;done) | (simp;omega)) | refine IsEx.fr ?_ (by assumption) (by omega) | refine IsEx.stay ?_ (by assumption)))) (hid (by (with_reducible repeat first | exact hb.out | refine Bld.alloc ?_ _ | refine Bld.drewN ?_ _ | refine Bld.drew ?_))) (by first | omega | (simp;omega)) (hL.b (by (with_reducible repeat first | exact Below.refl _ _ | refine Below.alloc ?_ (by first | omega | (simp;omega)) _ | refine Below.drewN ?_ _ | refine Below.drew ?_ | refine Below.setCell ?_ (by first | omega | (simp;omega)) _ | refine Below.trans ?_ (by assumption)))) 33 HSG.out _ (hid rfl) HL.out).mono ?_);rintro e' w2 ⟨rfl,hb2,hB2,hk2⟩)
 go_end0
 exact ⟨rfl,hb2,by (with_reducible repeat first | exact Below.refl _ _ | refine Below.alloc ?_ (by first | omega | (simp;omega)) _ | refine Below.drewN ?_ _ | refine Below.drew ?_ | refine Below.setCell ?_ (by first | omega | (simp;omega)) _ | refine Below.trans ?_ (by assumption)),by (with_reducible repeat first | exact KeptE.refl _ | refine KeptE.alloc ?_ _ | refine KeptE.drewN ?_ _ | refine KeptE.drew ?_ | refine KeptE.set ?_ (by first | omega | (simp;omega)) _ _ | refine KeptE.step ?_ (by assumption))⟩
theorem show_6 (N : Nat) (IH : Hid (ShowGoal N)) (x : Ex) (hN : x.cnt < N + 1) (h9 : x.cnt < 1000000000) (hnum : Hid (Nums x)) (B b : Nat) (hk : x.k = 6) : Shows x x.txt B b:=by
 intro p c l w hx hb hB hL hl
 rw [txt6 hk] at hl ⊢
 have h0 : (x.k == 0) = false:=by (rw [hk];rfl)
 have h1 : (x.k == 1) = false:=by (rw [hk];rfl)
 have h2 : (x.k == 2) = false:=by (rw [hk];rfl)
 have h3 : (x.k == 3) = false:=by (rw [hk];rfl)
 have h7 : (x.k == 7) = false:=by (rw [hk];rfl)
 have h4 : (x.k == 4) = false:=by (rw [hk];rfl)
 have h5 : (x.k == 5) = false:=by (rw [hk];rfl)
 have h6 : (x.k == 6) = true:=by (rw [hk];rfl)
 clear hk
 have hkn:=ks_lt x
 have hn9 : x.ks.length < 1000000000:=by omega
 have hS : Hid (∀ y ∈ x.ks,Shows y y.txt B b):=hid fun y hy => by
  have h1:=cntL_mem hy
  have h2 : x.cnt = 1 + Ex.cntL x.ks:=by cases x;simp only [Ex.cnt,Ex.ks]
  exact IH.out y (by omega) (by omega) (hnum.out.kid hy) B b
 obtain ⟨n,hn'⟩ : ∃ n,n = x.ks.length:=⟨_,rfl⟩
 rw [← hn'] at hx hn9 ⊢
 have hn : Hid (x.ks.length = n):=hid hn'.symm
 have HX:=hid hx
 replace hb:=hid hb
 have h1 : Hid (((⟨#[32]⟩ : ByteArray) ++ sgnZ x.op ++ ⟨#[32]⟩).data.toList = opT x.op):=hid (by simp [opT])
 have HL:=hid hl
 clear hx hl IH hn' hkn
 go_enter Tryd.func66,Tryd.ntmps66
 go_wp2_with (go_at_call 85;(with_reducible refine (two_any x Ex.txt _ _ B b n p c l _ hn hn9 hS (hid (by (with_reducible repeat first | exact HX.out | refine IsEx.alloc ?_ _ | refine IsEx.drewN ?_ _ | refine IsEx.drew ?_ | (refine IsEx.set ?_ ?_ _ _;rotate_left;first | omega | (simp;done) | (simp;omega)) | refine IsEx.fr ?_ (by assumption) (by omega) | refine IsEx.stay ?_ (by assumption)))) (hid (by (with_reducible repeat first | exact hb.out | refine Bld.alloc ?_ _ | refine Bld.drewN ?_ _ | refine Bld.drew ?_))) (by first | omega | (simp;omega)) (hL.b (by (with_reducible repeat first | exact Below.refl _ _ | refine Below.alloc ?_ (by first | omega | (simp;omega)) _ | refine Below.drewN ?_ _ | refine Below.drew ?_ | refine Below.setCell ?_ (by first | omega | (simp;omega)) _ | refine Below.trans ?_ (by assumption)))) _ h1 (sgn_short _) (hid rfl) (hid rfl) HL.out).mono ?_);rintro e' w2 ⟨rfl,hb2,hB2,hk2⟩)
 go_end0
 exact ⟨rfl,hb2,by (with_reducible repeat first | exact Below.refl _ _ | refine Below.alloc ?_ (by first | omega | (simp;omega)) _ | refine Below.drewN ?_ _ | refine Below.drew ?_ | refine Below.setCell ?_ (by first | omega | (simp;omega)) _ | refine Below.trans ?_ (by assumption)),by (with_reducible repeat first | exact KeptE.refl _ | refine KeptE.alloc ?_ _ | refine KeptE.drewN ?_ _ | refine KeptE.drew ?_ | refine KeptE.set ?_ (by first | omega | (simp;omega)) _ _ | refine KeptE.step ?_ (by assumption))⟩
theorem show_N (N : Nat) (IH : Hid (ShowGoal N)) (x : Ex) (hN : x.cnt < N + 1) (h9 : x.cnt < 1000000000) (hnum : Hid (Nums x)) (B b : Nat) (hk : x.k ≠ 0 ∧ x.k ≠ 1 ∧ x.k ≠ 2 ∧ x.k ≠ 3 ∧ x.k ≠ 7 ∧ x.k ≠ 4 ∧ x.k ≠ 5 ∧ x.k ≠ 6) : Shows x x.txt B b:=by
 intro p c l w hx hb hB hL hl
 rw [txtN hk,List.append_nil]
 have h0 : (x.k == 0) = false:=by simpa using hk.1
 have h1 : (x.k == 1) = false:=by simpa using hk.2.1
 have h2 : (x.k == 2) = false:=by simpa using hk.2.2.1
 have h3 : (x.k == 3) = false:=by simpa using hk.2.2.2.1
 have h7 : (x.k == 7) = false:=by simpa using hk.2.2.2.2.1
 have h4 : (x.k == 4) = false:=by simpa using hk.2.2.2.2.2.1
 have h5 : (x.k == 5) = false:=by simpa using hk.2.2.2.2.2.2.1
 have h6 : (x.k == 6) = false:=by simpa using hk.2.2.2.2.2.2.2
 replace hb:=hid hb
 clear hk hx hl IH
 go_enter Tryd.func66,Tryd.ntmps66
 go_wp2
 go_end0
 exact ⟨rfl,by (with_reducible repeat first | exact hb.out | refine Bld.alloc ?_ _ | refine Bld.drewN ?_ _ | refine Bld.drew ?_),by (with_reducible repeat first | exact Below.refl _ _ | refine Below.alloc ?_ (by first | omega | (simp;omega)) _ | refine Below.drewN ?_ _ | refine Below.drew ?_ | refine Below.setCell ?_ (by first | omega | (simp;omega)) _ | refine Below.trans ?_ (by assumption)),by (with_reducible repeat first | exact KeptE.refl _ | refine KeptE.alloc ?_ _ | refine KeptE.drewN ?_ _ | refine KeptE.drew ?_ | refine KeptE.set ?_ (by first | omega | (simp;omega)) _ _ | refine KeptE.step ?_ (by assumption))⟩
theorem show_any : ∀ N,ShowGoal N
 | 0 => fun _ h => absurd h (by omega)
 | N + 1 => fun x hN h9 hnum B b => by
  have IH:=hid (show_any N)
  by_cases h0 : x.k = 0
  · exact show_0 N IH x hN h9 (hid hnum) B b h0
  by_cases h1 : x.k = 1
  · exact show_1 N IH x hN h9 (hid hnum) B b h1
  by_cases h2 : x.k = 2
  · exact show_2 N IH x hN h9 (hid hnum) B b h2
  by_cases h3 : x.k = 3
  · exact show_3 N IH x hN h9 (hid hnum) B b h3
  by_cases h7 : x.k = 7
  · exact show_7 N IH x hN h9 (hid hnum) B b h7
  by_cases h4 : x.k = 4
  · exact show_4 N IH x hN h9 (hid hnum) B b h4
  by_cases h5 : x.k = 5
  · exact show_5 N IH x hN h9 (hid hnum) B b h5
  by_cases h6 : x.k = 6
  · exact show_6 N IH x hN h9 (hid hnum) B b h6
  exact show_N N IH x hN h9 (hid hnum) B b ⟨h0,h1,h2,h3,h7,h4,h5,h6⟩
theorem shows_any (x : Ex) (h9 : x.cnt < 1000000000) (hnum : Hid (Nums x)) (p : Option Addr) (c : Nat) (w : World) (hx : Hid (IsEx 0 w x (.slice p x.ks.length c))) (L : Hid (Laid w)) (T : List UInt8) (hT : Hid (T = x.txt)) (hl : Hid (T.length ≤ 1000000000)) :
 Calls Tryd.prog 51 #[.agg #[.int .i64 x.k,.int .i64 x.op,.int .i64 x.n,.string (bstr x.nm),.slice p x.ks.length c,.int .i64 x.a]] w fun e w' => e = .returned (.string (bstr T)) ∧ Below w.heap.size w w':=by
 have hS : ∀ B b,Shows x T B b:=by (rw [hT.out];exact show_any (x.cnt + 1) x (by omega) h9 hnum.out)
 have HS:=hid hS
 clear hS
 go_enter Tryd.func51,Tryd.ntmps51
 have HL1 : Hid (LB (w.heap.size + 1) (w.alloc (.cells #[.int .i64 x.k,.int .i64 x.op,.int .i64 x.n,.string (bstr x.nm),.slice p x.ks.length c,.int .i64 x.a] 71))):=hid ⟨_,L.out.below ((Below.refl _ _).alloc (Nat.le_refl _) _),by simp,Below.refl _ _⟩
 have hl0 : ([] : List UInt8).length + T.length ≤ 140737488355328:=by (have:=hl.out;simp;omega)
 go_wp2_with (first
  | (go_at_call 66;go_loud ((with_reducible refine ((HS.out (w.heap.size + 1) (w.heap.size + 1)) p c [] _ (by (with_reducible repeat first | exact hx.out | refine IsEx.alloc ?_ _ | refine IsEx.drewN ?_ _ | refine IsEx.drew ?_ | (refine IsEx.set ?_ ?_ _ _;rotate_left;first | omega | (simp;done) | (simp;omega)) | refine IsEx.fr ?_ (by assumption) (by omega) | refine IsEx.stay ?_ (by assumption))) (bld_new _ _ (by simp)) (by simp) (HL1.out.b ((Below.refl _ _).alloc (by simp) _)) hl0).mono ?_);rintro e' w1 ⟨rfl,hb1,hB1,hk1⟩;have hz1:=hB1.size;(try simp at hz1)))
  | (go_at_call 25;(with_reducible refine (Tryd.Builder_String_any_k (w.heap.size + 1) (w.heap.size + 1) T _ (by simpa using hb1) (by omega)).mono ?_);rintro e' w2 ⟨rfl,-,hB2,-⟩;have hz2:=hB2.size))
 go_ret
 have hBa : Below w.heap.size w w1:=(((Below.refl _ w).alloc (Nat.le_refl _) _).alloc (by simp) _).trans (hB1.mono (by omega))
 exact ⟨rfl,hBa.trans (hB2.mono (by omega))⟩
theorem P.form {o : Nat} {j : Job} {ts : List Wd} {r : Res} (h : P o j ts r) (hm : j.may ts) (hF : Fin ts) (hl : j.lst = false) :
 (∃ x d ts',r = .ok x (d :: ts') ∧ Fin (d :: ts') ∧ (d :: ts').length + j.min ≤ ts.length) ∨ ∃ c a,r = .bad c a:=by
 have hp:=h.post' hm hF
 cases r with
 | ok x ts' =>
  obtain ⟨d,t2,rfl⟩:=hp.2.1.ne
  exact .inl ⟨x,d,t2,rfl,hp.2.1,hp.2.2⟩
 | okL x ts' => exact absurd hp.1 (by rw [hl];decide)
 | bad c a => exact .inr ⟨c,a,rfl⟩
theorem P.formL {o : Nat} {j : Job} {ts : List Wd} {r : Res} (h : P o j ts r) (hm : j.may ts) (hF : Fin ts) (hl : j.lst = true) :
 (∃ xs d ts',r = .okL xs (d :: ts') ∧ Fin (d :: ts') ∧ (d :: ts').length + j.min ≤ ts.length) ∨ ∃ c a,r = .bad c a:=by
 have hp:=h.post' hm hF
 cases r with
 | okL x ts' =>
  obtain ⟨d,t2,rfl⟩:=hp.2.1.ne
  exact .inl ⟨x,d,t2,rfl,hp.2.1,hp.2.2⟩
 | ok x ts' => exact absurd hp.1 (by rw [hl];decide)
 | bad c a => exact .inr ⟨c,a,rfl⟩
theorem P.total : ∀ (N o : Nat) (j : Job) (ts : List Wd),4 * ts.length + j.wt < N → j.may ts → Fin ts → o ≤ 32 → ∃ r,P o j ts r:=by
 intro N
 induction N with
 | zero => intro o j ts h;exact absurd h (by omega)
 | succ N ih =>
  intro o j ts hN hm hF ho
  obtain ⟨w,t,rfl⟩:=hF.ne
  simp only [List.length_cons] at hN
  cases j with
  | thing =>
   by_cases h1 : w.k = 1
   · exact ⟨_,.num h1⟩
   by_cases h0 : w.k = 0
   · by_cases hk : keyB w.t = true
     · by_cases ht : w.t = truB
       · exact ⟨_,.tru h0 ht⟩
       by_cases hf : w.t = flsB
       · exact ⟨_,.fls h0 hf⟩
       exact ⟨_,.stray ⟨h1,fun _ => ⟨hk,ht,hf⟩,fun h => by rw [h0] at h;cases h⟩⟩
     · obtain ⟨r,hr⟩:=ih o .nam (w :: t) (by simp [Job.wt] at hN ⊢;omega) (by rintro w' t' e;cases e;exact h0) hF ho
       exact ⟨r,.name h0 (by simpa using hk) hr⟩
   by_cases h2 : w.k = 2
   · have hm2 : ∀ w' t',w :: t = w' :: t' → w'.k = 2:=by rintro w' t' e;cases e;exact h2
     by_cases ha : w.t = [45]
     · obtain ⟨r,hr⟩:=ih o (.beh 4) (w :: t) (by simp [Job.wt] at hN ⊢;omega) hm2 hF ho
       exact ⟨r,.neg ⟨h2,ha⟩ hr⟩
     by_cases hb : w.t = [33]
     · obtain ⟨r,hr⟩:=ih o (.beh 5) (w :: t) (by simp [Job.wt] at hN ⊢;omega) hm2 hF ho
       exact ⟨r,.not ⟨h2,hb⟩ hr⟩
     by_cases hc : w.t = [40]
     · obtain ⟨r,hr⟩:=ih o (.wth [41]) (w :: t) (by simp [Job.wt] at hN ⊢;omega) hm2 hF ho
       exact ⟨r,.par ⟨h2,hc⟩ hr⟩
     exact ⟨_,.stray ⟨h1,fun h => absurd h h0,fun _ => ⟨ha,hb,hc⟩⟩⟩
   exact ⟨_,.stray ⟨h1,fun h => absurd h h0,fun h => absurd h h2⟩⟩
  | beh k =>
   have hF' : Fin t:=hF.cons (by rw [hm w t rfl];decide)
   by_cases hl : o = 32
   · exact ⟨_,.behLim hl⟩
   obtain ⟨r,hr⟩:=ih (o + 1) .thing t (by simp [Job.wt] at hN ⊢;omega) trivial hF' (by omega)
   rcases hr.form trivial hF' rfl with ⟨x,d,ts',rfl,-,-⟩ | ⟨c,a,rfl⟩
   · exact ⟨_,.behOk (by omega) hr⟩
   · exact ⟨_,.behBad (by omega) hr⟩
  | wth c =>
   have hF' : Fin t:=hF.cons (by rw [hm w t rfl];decide)
   by_cases hl : o = 32
   · exact ⟨_,.wthLim hl⟩
   obtain ⟨r,hr⟩:=ih (o + 1) (.expr 1) t (by simp [Job.wt] at hN ⊢;omega) (by simp [Job.may]) hF' (by omega)
   rcases hr.form (by simp [Job.may]) hF' rfl with ⟨x,d,ts',rfl,-,-⟩ | ⟨c,a,rfl⟩
   · by_cases hs : Sg d c
     · exact ⟨_,.wthOk (by omega) hr hs⟩
     · exact ⟨_,.wthNo (by omega) hr hs⟩
   · exact ⟨_,.wthBad (by omega) hr⟩
  | nam =>
   have hF' : Fin t:=hF.cons (by rw [hm w t rfl];decide)
   obtain ⟨c,ts,rfl⟩:=hF'.ne
   simp only [List.length_cons] at hN
   by_cases h1 : Sg c [91]
   · have hm2 : (Job.wth [93]).may (c :: ts):=by rintro w' t' e;cases e;exact h1.1
     obtain ⟨r,hr⟩:=ih o (.wth [93]) (c :: ts) (by simp [Job.wt] at hN ⊢;omega) hm2 hF' ho
     rcases hr.form hm2 hF' rfl with ⟨x,d,ts',rfl,-,-⟩ | ⟨c,a,rfl⟩
     · exact ⟨_,.namElem h1 hr⟩
     · exact ⟨_,.namElemBad h1 hr⟩
   by_cases h2 : Sg c [40]
   · have hm2 : Job.giv.may (c :: ts):=by rintro w' t' e;cases e;exact h2.1
     obtain ⟨r,hr⟩:=ih o .giv (c :: ts) (by simp [Job.wt] at hN ⊢;omega) hm2 hF' ho
     rcases hr.formL hm2 hF' rfl with ⟨x,d,ts',rfl,-,-⟩ | ⟨c,a,rfl⟩
     · exact ⟨_,.namCall h2 hr⟩
     · exact ⟨_,.namCallBad h2 hr⟩
   exact ⟨_,.namVar h1 h2⟩
  | giv =>
   have hF' : Fin t:=hF.cons (by rw [hm w t rfl];decide)
   obtain ⟨d,ts,rfl⟩:=hF'.ne
   simp only [List.length_cons] at hN
   by_cases hl : o = 32
   · exact ⟨_,.givLim hl⟩
   by_cases h1 : Sg d [41]
   · exact ⟨_,.givNone (by omega) h1⟩
   obtain ⟨r,hr⟩:=ih (o + 1) (.list []) (d :: ts) (by simp [Job.wt] at hN ⊢;omega) trivial hF' (by omega)
   rcases hr.formL trivial hF' rfl with ⟨x,f,ts',rfl,-,-⟩ | ⟨c,a,rfl⟩
   · by_cases hs : Sg f [41]
     · exact ⟨_,.givSome (by omega) h1 hr hs⟩
     · exact ⟨_,.givNo (by omega) h1 hr hs⟩
   · exact ⟨_,.givBad (by omega) h1 hr⟩
  | expr r =>
   obtain ⟨r1,hr⟩:=ih o .thing (w :: t) (by simp [Job.wt] at hN ⊢;omega) trivial hF ho
   rcases hr.form trivial hF rfl with ⟨x,d,ts',rfl,hF2,hL⟩ | ⟨c,a,rfl⟩
   · simp [Job.min] at hL
     obtain ⟨r2,hr2⟩:=ih o (.loop r x) (d :: ts') (by simp [Job.wt] at hN ⊢;omega) hm hF2 ho
     exact ⟨_,.expr hr hr2⟩
   · exact ⟨_,.exprBad hr⟩
  | loop r l =>
   by_cases hc : rkW w < r
   · exact ⟨_,.loopEnd hc⟩
   have hb:=rkW_bd w
   have h1 : 1 ≤ r:=hm.1
   have hF' : Fin t:=hF.cons (by rw [(rkW_ne (w:=w) (by omega)).1];decide)
   have hm2 : (Job.expr (rkW w + 1)).may t:=⟨by omega,by omega⟩
   obtain ⟨r1,hr⟩:=ih o (.expr (rkW w + 1)) t (by simp [Job.wt] at hN ⊢;omega) hm2 hF' ho
   rcases hr.form hm2 hF' rfl with ⟨x,d,ts',rfl,hF2,hL⟩ | ⟨c,a,rfl⟩
   · simp [Job.min] at hL
     obtain ⟨r2,hr2⟩:=ih o (.loop r (.mk 6 (opB w.t) 0 [] [l,x] l.a)) (d :: ts') (by simp [Job.wt] at hN ⊢;omega) hm hF2 ho
     exact ⟨_,.loopMore (by omega) hr hr2⟩
   · exact ⟨_,.loopBad (by omega) hr⟩
  | list acc =>
   have hm2 : (Job.expr 1).may (w :: t):=by simp [Job.may]
   obtain ⟨r1,hr⟩:=ih o (.expr 1) (w :: t) (by simp [Job.wt] at hN ⊢;omega) hm2 hF ho
   rcases hr.form hm2 hF rfl with ⟨x,d,ts',rfl,hF2,hL⟩ | ⟨c,a,rfl⟩
   · by_cases hs : Sg d [44]
     · simp [Job.min] at hL
       have hF3:=hF2.cons hs.ne
       obtain ⟨r2,hr2⟩:=ih o (.list (acc ++ [x])) ts' (by simp [Job.wt] at hN ⊢;omega) trivial hF3 ho
       exact ⟨_,.lstMore hr hs hr2⟩
     · exact ⟨_,.lstEnd hr hs⟩
   · exact ⟨_,.lstBad hr⟩
theorem Sc.fin {num : List UInt8 → Option Int} {l : List UInt8} {a : Nat} {ws : List Wd} {r : Option (Int × Nat)} (h : Sc num l a ws r) (hr : r = none) : Fin ws:=by
 induction h with
 | done a => exact ⟨[],_,rfl,rfl⟩
 | bad => cases hr
 | gap _ _ _ _ _ _ _ _ ih => exact ih hr
 | word l a n k v ws r _ _ _ ih =>
  obtain ⟨pre,e,h1,h2⟩:=ih hr
  exact ⟨_ :: pre,e,by rw [h1];rfl,h2⟩
theorem Sc.short {num : List UInt8 → Option Int} {l : List UInt8} {a : Nat} {ws : List Wd} {r : Option (Int × Nat)} (h : Sc num l a ws r) : ∀ x ∈ ws,x.t.length ≤ l.length:=by
 induction h with
 | done a => intro x hx;simp at hx;subst hx;simp
 | bad => intro x hx;simp at hx
 | gap l a n ws r _ _ _ ih =>
  intro x hx
  have:=ih x hx
  simp at this
  omega
 | word l a n k v ws r _ _ _ ih =>
  intro x hx
  rcases List.mem_cons.1 hx with rfl | hx
  · show (l.take n).length ≤ _
    simp
    omega
  · have:=ih x hx
    simp at this
    omega
inductive Out where
 | ok (e : Ex)
 | bad (c : Int) (a : Nat)
inductive OfR (l : List UInt8) : Out → Prop
 | lex {ws : List Wd} {c : Int} {a : Nat} : Sc numO l 0 ws (some (c,a)) → OfR l (.bad c a)
 | bad {ws : List Wd} {c : Int} {a : Nat} : Sc numO l 0 ws none → P 0 (.expr 1) ws (.bad c a) → OfR l (.bad c a)
 | stray {ws ts : List Wd} {d : Wd} {e : Ex} : Sc numO l 0 ws none → P 0 (.expr 1) ws (.ok e (d :: ts)) → d.k ≠ 3 → OfR l (.bad 11 d.a)
 | ok {ws ts : List Wd} {d : Wd} {e : Ex} : Sc numO l 0 ws none → P 0 (.expr 1) ws (.ok e (d :: ts)) → d.k = 3 → OfR l (.ok e)
theorem OfR.total (l : List UInt8) : ∃ r,OfR l r:=by
 obtain ⟨ws,r,h⟩:=Sc.total numO l.length l 0 (Nat.le_refl _)
 cases r with
 | some q => exact ⟨_,.lex (c:=q.1) (a:=q.2) h⟩
 | none =>
  have hF:=h.fin rfl
  obtain ⟨r,hr⟩:=P.total (4 * ws.length + 3) 0 (.expr 1) ws (by simp [Job.wt]) (by simp [Job.may]) hF (by omega)
  rcases hr.form (by simp [Job.may]) hF rfl with ⟨x,d,ts',rfl,-,-⟩ | ⟨c,a,rfl⟩
  · by_cases hd : d.k = 3
    · exact ⟨_,.ok h hr hd⟩
    · exact ⟨_,.stray h hr hd⟩
  · exact ⟨_,.bad h hr⟩
theorem key_tru : keyB [116,114,117,101] = true:=by decide
theorem key_fls : keyB [102,97,108,115,101] = true:=by decide
theorem P.det {o : Nat} {j : Job} {ts : List Wd} {r : Res} (h : P o j ts r) : ∀ r',P o j ts r' → r = r':=by
 induction h with
 | num h1 => intro r' h;cases h <;> simp_all [Sg,Stray]
 | tru h1 h2 => intro r' h;cases h <;> simp_all [Sg,Stray,key_tru,key_fls,truB,flsB]
 | fls h1 h2 => intro r' h;cases h <;> simp_all [Sg,Stray,key_tru,key_fls,truB,flsB]
 | neg h1 _ ih => intro r' h;cases h <;> first | (exact ih _ (by assumption)) | (simp_all [Sg,Stray];done)
 | not h1 _ ih => intro r' h;cases h <;> first | (exact ih _ (by assumption)) | (simp_all [Sg,Stray];done)
 | par h1 _ ih => intro r' h;cases h <;> first | (exact ih _ (by assumption)) | (simp_all [Sg,Stray];done)
 | name h1 h2 _ ih => intro r' h;cases h <;> first | (exact ih _ (by assumption)) | (simp_all [Sg,Stray,key_tru,key_fls,truB,flsB];done)
 | stray h1 => intro r' h;cases h <;> first | rfl | (simp_all [Sg,Stray,truB,flsB];done)
 | behLim h1 => intro r' h;cases h <;> first | rfl | omega
 | behOk h1 _ ih =>
  intro r' h
  cases h with
  | behLim => omega
  | behOk _ h2 => have:=ih _ h2;simp_all
  | behBad _ h2 => have:=ih _ h2;simp_all
 | behBad h1 _ ih =>
  intro r' h
  cases h with
  | behLim => omega
  | behOk _ h2 => have:=ih _ h2;simp_all
  | behBad _ h2 => have:=ih _ h2;simp_all
 | wthLim h1 => intro r' h;cases h <;> first | rfl | omega
 | wthOk h1 _ h3 ih =>
  intro r' h
  cases h with
  | wthLim => omega
  | wthOk _ h2 _ => have:=ih _ h2;simp_all
  | wthNo _ h2 _ => have:=ih _ h2;simp_all
  | wthBad _ h2 => have:=ih _ h2;simp_all
 | wthNo h1 _ h3 ih =>
  intro r' h
  cases h with
  | wthLim => omega
  | wthOk _ h2 _ => have:=ih _ h2;simp_all
  | wthNo _ h2 _ => have:=ih _ h2;simp_all
  | wthBad _ h2 => have:=ih _ h2;simp_all
 | wthBad h1 _ ih =>
  intro r' h
  cases h with
  | wthLim => omega
  | wthOk _ h2 _ => have:=ih _ h2;simp_all
  | wthNo _ h2 _ => have:=ih _ h2;simp_all
  | wthBad _ h2 => have:=ih _ h2;simp_all
 | namVar h1 h2 => intro r' h;cases h <;> first | rfl | contradiction
 | namElem h1 _ ih =>
  intro r' h
  cases h with
  | namVar => contradiction
  | namElem _ h2 => have:=ih _ h2;simp_all
  | namElemBad _ h2 => have:=ih _ h2;simp_all
  | namCall h2 _ => simp_all [Sg]
  | namCallBad h2 _ => simp_all [Sg]
 | namElemBad h1 _ ih =>
  intro r' h
  cases h with
  | namVar => contradiction
  | namElem _ h2 => have:=ih _ h2;simp_all
  | namElemBad _ h2 => have:=ih _ h2;simp_all
  | namCall h2 _ => simp_all [Sg]
  | namCallBad h2 _ => simp_all [Sg]
 | namCall h1 _ ih =>
  intro r' h
  cases h with
  | namVar => contradiction
  | namElem h2 _ => simp_all [Sg]
  | namElemBad h2 _ => simp_all [Sg]
  | namCall _ h2 => have:=ih _ h2;simp_all
  | namCallBad _ h2 => have:=ih _ h2;simp_all
 | namCallBad h1 _ ih =>
  intro r' h
  cases h with
  | namVar => contradiction
  | namElem h2 _ => simp_all [Sg]
  | namElemBad h2 _ => simp_all [Sg]
  | namCall _ h2 => have:=ih _ h2;simp_all
  | namCallBad _ h2 => have:=ih _ h2;simp_all
 | givLim h1 => intro r' h;cases h <;> first | rfl | omega
 | givNone h1 h2 => intro r' h;cases h <;> first | rfl | omega | contradiction
 | givSome h1 h2 _ h4 ih =>
  intro r' h
  cases h with
  | givLim => omega
  | givNone => contradiction
  | givSome _ _ h3 _ => have:=ih _ h3;simp_all
  | givNo _ _ h3 _ => have:=ih _ h3;simp_all
  | givBad _ _ h3 => have:=ih _ h3;simp_all
 | givNo h1 h2 _ h4 ih =>
  intro r' h
  cases h with
  | givLim => omega
  | givNone => contradiction
  | givSome _ _ h3 _ => have:=ih _ h3;simp_all
  | givNo _ _ h3 _ => have:=ih _ h3;simp_all
  | givBad _ _ h3 => have:=ih _ h3;simp_all
 | givBad h1 h2 _ ih =>
  intro r' h
  cases h with
  | givLim => omega
  | givNone => contradiction
  | givSome _ _ h3 _ => have:=ih _ h3;simp_all
  | givNo _ _ h3 _ => have:=ih _ h3;simp_all
  | givBad _ _ h3 => have:=ih _ h3;simp_all
 | lstMore _ h2 _ ih ih2 =>
  intro r' h
  cases h with
  | lstMore h3 h4 h5 =>
   have h6:=ih _ h3
   simp at h6
   obtain ⟨rfl,rfl,rfl⟩:=h6
   exact ih2 _ h5
  | lstEnd h3 h4 => have:=ih _ h3;simp_all
  | lstBad h3 => have:=ih _ h3;simp_all
 | lstEnd _ h2 ih =>
  intro r' h
  cases h with
  | lstMore h3 h4 h5 => have:=ih _ h3;simp_all
  | lstEnd h3 h4 => have:=ih _ h3;simp_all
  | lstBad h3 => have:=ih _ h3;simp_all
 | lstBad _ ih =>
  intro r' h
  cases h with
  | lstMore h3 h4 h5 => have:=ih _ h3;simp_all
  | lstEnd h3 h4 => have:=ih _ h3;simp_all
  | lstBad h3 => have:=ih _ h3;simp_all
 | expr _ _ ih ih2 =>
  intro r' h
  cases h with
  | expr h3 h4 =>
   have h6:=ih _ h3
   simp at h6
   obtain ⟨rfl,rfl⟩:=h6
   exact ih2 _ h4
  | exprBad h3 => have:=ih _ h3;simp_all
 | exprBad _ ih =>
  intro r' h
  cases h with
  | expr h3 h4 => have:=ih _ h3;simp_all
  | exprBad h3 => have:=ih _ h3;simp_all
 | loopEnd h1 => intro r' h;cases h <;> first | rfl | omega
 | loopMore h1 _ _ ih ih2 =>
  intro r' h
  cases h with
  | loopEnd => omega
  | loopMore _ h3 h4 =>
   have h6:=ih _ h3
   simp at h6
   obtain ⟨rfl,rfl⟩:=h6
   exact ih2 _ h4
  | loopBad _ h3 => have:=ih _ h3;simp_all
 | loopBad h1 _ ih =>
  intro r' h
  cases h with
  | loopEnd => omega
  | loopMore _ h3 h4 => have:=ih _ h3;simp_all
  | loopBad _ h3 => have:=ih _ h3;simp_all
def kVar : List UInt8:=[118,97,114]
def kIf : List UInt8:=[105,102]
def kWhile : List UInt8:=[119,104,105,108,101]
def kLock : List UInt8:=[108,111,99,107]
def kOut : List UInt8:=[111,117,116]
def kPublic : List UInt8:=[112,117,98,108,105,99]
def kSecret : List UInt8:=[115,101,99,114,101,116]
def kInt : List UInt8:=[105,110,116]
def kBool : List UInt8:=[98,111,111,108]
def kElse : List UInt8:=[101,108,115,101]
def kBy : List UInt8:=[98,121]
def kFunc : List UInt8:=[102,117,110,99]
def kThread : List UInt8:=[116,104,114,101,97,100]
def kReturn : List UInt8:=[114,101,116,117,114,110]
inductive Stm where
 | mk (k a : Int) (tr sc : Bool) (nm : List UInt8) (ix es : List Ex) (bd el : List Stm)
def Stm.k : Stm → Int | .mk k _ _ _ _ _ _ _ _ => k
def Stm.a : Stm → Int | .mk _ a _ _ _ _ _ _ _ => a
def Stm.tr : Stm → Bool | .mk _ _ t _ _ _ _ _ _ => t
def Stm.sc : Stm → Bool | .mk _ _ _ t _ _ _ _ _ => t
def Stm.nm : Stm → List UInt8 | .mk _ _ _ _ n _ _ _ _ => n
def Stm.ix : Stm → List Ex | .mk _ _ _ _ _ l _ _ _ => l
def Stm.es : Stm → List Ex | .mk _ _ _ _ _ _ l _ _ => l
def Stm.bd : Stm → List Stm | .mk _ _ _ _ _ _ _ l _ => l
def Stm.el : Stm → List Stm | .mk _ _ _ _ _ _ _ _ l => l
structure Gl where
 (a : Int) (nm : List UInt8) (tr sc : Bool) (len : Int) (by_ : List UInt8)
structure Pm where
 (nm : List UInt8) (tr sc : Bool)
structure Fn where
 (a : Int) (nm : List UInt8) (ps : List Pm) (tr sc : Bool) (bd : List Stm) (ret : Ex)
structure Lk where
 (a : Int) (nm : List UInt8)
structure Pg where
 (gs : List Gl) (ls : List Lk) (fs : List Fn) (ths : List (List Stm))
def ex0 : Ex:=.mk 0 0 0 [] [] 0
def stm0 : Stm:=.mk 0 0 false false [] [] [] [] []
inductive RS where
 | ok (ts : List Wd)
 | bad (c : Int) (a : Nat)
def RS.good : RS → Bool | .ok _ => true | .bad _ _ => false
def RS.hd : RS → Wd | .ok (w :: _) => w | _ => ⟨3,[],0,0⟩
def RS.adv : RS → RS | .ok (_ :: ts) => .ok ts | s => s
def RS.fail (e : Int) : RS → RS | .ok (w :: _) => .bad e w.a | s => s
def RS.len : RS → Nat | .ok ts => ts.length | .bad _ _ => 0
def RS.is (t : List UInt8) : RS → Bool | .ok (w :: _) => (decide (w.k = 2) || decide (w.k = 0)) && decide (w.t = t) | _ => false
def RS.need (t : List UInt8) (s : RS) : RS:=if s.is t then s.adv else s.fail 11
def eithF (x y : List UInt8) (s : RS) : Bool × RS:=if s.is y then (true,s.adv) else (false,s.need x)
def kindF (s : RS) : (Bool × Bool) × RS :=
 let p:=eithF kPublic kSecret s
 let q:=eithF kInt kBool p.2
 ((q.1,p.1),q.2)
def nameF : RS → (List UInt8 × Nat) × RS
 | .ok (w :: ts) => if w.k ≠ 0 ∨ keyB w.t = true then (([],0),.bad 11 w.a) else ((w.t,w.a),.ok ts)
 | s => (([],0),s)
open Classical in
noncomputable def exF : RS → Ex × RS
 | .ok ts => if h : ∃ r,P 0 (.expr 1) ts r then (match Classical.choose h with | .ok x ts' => (x,.ok ts') | .bad c a => (ex0,.bad c a) | .okL _ _ => (ex0,.ok ts)) else (ex0,.ok ts)
 | .bad c a => (ex0,.bad c a)
theorem exF_ok {ts ts' : List Wd} {x : Ex} (h : P 0 (.expr 1) ts (.ok x ts')) : exF (.ok ts) = (x,.ok ts'):=by
 have hx : ∃ r,P 0 (.expr 1) ts r:=⟨_,h⟩
 have e:=(Classical.choose_spec hx).det _ h
 simp only [exF,dif_pos hx,e]
theorem exF_bad {ts : List Wd} {c : Int} {a : Nat} (h : P 0 (.expr 1) ts (.bad c a)) : exF (.ok ts) = (ex0,.bad c a):=by
 have hx : ∃ r,P 0 (.expr 1) ts r:=⟨_,h⟩
 have e:=(Classical.choose_spec hx).det _ h
 simp only [exF,dif_pos hx,e]
noncomputable def boundF (s : RS) : Ex × RS :=
 let p:=exF (s.need [40])
 (p.1,p.2.need [41])
mutual
noncomputable def stmtF : Nat → Nat → RS → Stm × RS
 | 0,_,s => (stm0,s)
 | n + 1,d,s =>
  if s.is kVar then
   let t:=kindF s.adv
   let m:=nameF t.2
   let e:=exF (m.2.need [61])
   (.mk 0 s.hd.a t.1.1 t.1.2 m.1.1 [] [e.1] [] [],e.2.need [59])
  else if s.is kIf then
   let e:=boundF s.adv
   let l:=blockF n d e.2
   if l.2.is kElse then
    let f:=blockF n d l.2.adv
    (.mk 2 s.hd.a false false [] [] [e.1] l.1 f.1,f.2)
   else (.mk 2 s.hd.a false false [] [] [e.1] l.1 [],l.2)
  else if s.is kWhile then
   let e:=boundF s.adv
   let l:=blockF n d e.2
   (.mk 3 s.hd.a false false [] [] [e.1] l.1 [],l.2)
  else if s.is kLock then
   let m:=nameF s.adv
   let l:=blockF n d m.2
   (.mk 4 s.hd.a false false m.1.1 [] [] l.1 [],l.2)
  else if s.is kOut then
   let e:=exF s.adv
   (.mk 5 s.hd.a false false [] [] [e.1] [] [],e.2.need [59])
  else
   let m:=nameF s
   if m.2.is [91] then
    let i:=exF m.2.adv
    let e:=exF ((i.2.need [93]).need [61])
    (.mk 1 s.hd.a false false m.1.1 [i.1] [e.1] [] [],e.2.need [59])
   else
    let e:=exF (m.2.need [61])
    (.mk 1 s.hd.a false false m.1.1 [] [e.1] [] [],e.2.need [59])
noncomputable def blockF : Nat → Nat → RS → List Stm × RS
 | 0,_,s => ([],s)
 | n + 1,d,s =>
  let s1:=if s.is [123] && decide (d = 32) then s.fail 2 else s
  let l:=stmtsF n (d + 1) [125] (s1.need [123])
  (l.1,l.2.need [125])
noncomputable def stmtsF : Nat → Nat → List UInt8 → RS → List Stm × RS
 | 0,_,_,s => ([],s)
 | n + 1,d,t,s =>
  if s.good && !s.is t then
   let x:=stmtF n d s
   let l:=stmtsF n d t x.2
   (x.1 :: l.1,l.2)
  else ([],s)
end
def limF (n most : Nat) (s : RS) : RS:=if most ≤ n then s.fail 2 else s
def lenF : RS → Int × RS
 | .ok (w :: ts) => if w.k ≠ 1 then (0,.bad 11 w.a) else if w.n < 1 ∨ 64 < w.n then (0,.bad 2 w.a) else (w.n,.ok ts)
 | s => (0,s)
def globF (n : Nat) (s : RS) : Gl × RS :=
 let t:=kindF (limF n 32 s)
 let m:=nameF t.2
 let l:=if m.2.is [91] then (let q:=lenF m.2.adv;(q.1,q.2.need [93])) else (0,m.2)
 let y:=if l.2.is kBy then (let q:=nameF l.2.adv;(q.1.1,q.2)) else ([],l.2)
 (⟨m.1.2,m.1.1,t.1.1,t.1.2,l.1,y.1⟩,y.2.need [59])
def parsF : Nat → Nat → RS → List Pm × RS
 | 0,_,s => ([],s)
 | n + 1,k,s =>
  if s.good then
   let t:=kindF (limF k 6 s)
   let m:=nameF t.2
   if m.2.is [44] then
    let l:=parsF n (k + 1) m.2.adv
    (⟨m.1.1,t.1.1,t.1.2⟩ :: l.1,l.2)
   else ([⟨m.1.1,t.1.1,t.1.2⟩],m.2)
  else ([],s)
def paramsF (s : RS) : List Pm × RS :=
 let s1:=s.need [40]
 if s1.is [41] then ([],s1.adv)
 else
  let l:=parsF 8 0 s1
  (l.1,l.2.need [41])
noncomputable def funcF (n : Nat) (s : RS) : Fn × RS :=
 let m:=nameF s.adv
 let l:=paramsF m.2
 let t:=kindF l.2
 let b:=stmtsF n 1 kReturn (t.2.need [123])
 let e:=exF (b.2.need kReturn)
 (⟨m.1.2,m.1.1,l.1,t.1.1,t.1.2,b.1,e.1⟩,(e.2.need [59]).need [125])
noncomputable def thingF (n : Nat) (p : Pg) (s : RS) : Pg × RS :=
 if s.is kLock then
  let s1:=limF p.ls.length 8 s
  if s1.good then
   let m:=nameF s1.adv
   ({ p with ls:=p.ls ++ [⟨m.1.2,m.1.1⟩] },m.2.need [59])
  else (p,s1)
 else if s.is kFunc then
  let s1:=limF p.fs.length 16 s
  if s1.good then
   let f:=funcF n s1
   ({ p with fs:=p.fs ++ [f.1] },f.2)
  else (p,s1)
 else if s.is kThread then
  let s1:=limF p.ths.length 4 s
  if s1.good then
   let l:=blockF n 0 s1.adv
   ({ p with ths:=p.ths ++ [l.1] },l.2)
  else (p,s1)
 else if s.is kPublic || s.is kSecret then
  let g:=globF p.gs.length s
  ({ p with gs:=p.gs ++ [g.1] },g.2)
 else (p,s.fail 11)
noncomputable def wholeF (n : Nat) : Nat → Pg → RS → Pg × RS
 | 0,p,s => (p,s)
 | m + 1,p,s => if s.good && decide (s.hd.k ≠ 3) then (let q:=thingF n p s;wholeF n m q.1 q.2) else (p,s)
def lineT (n : Nat) (ps : List (List UInt8)) : List UInt8:=List.replicate n 9 ++ (ps.flatten ++ [10])
def typeT (tr sc : Bool) : List UInt8:=(if sc then [115,101,99,114,101,116,32] else [112,117,98,108,105,99,32]) ++ (if tr then kBool else kInt)
def onlyT : List Ex → List UInt8
 | [] => []
 | x :: _ => x.txt
def indexT : List Ex → List UInt8
 | [] => []
 | x :: _ => 91 :: (x.txt ++ [93])
def tVar : List UInt8:=[118,97,114,32]
def tEq : List UInt8:=[32,61,32]
def tIf : List UInt8:=[105,102,32,40]
def tBr : List UInt8:=[41,32,123]
def tElse : List UInt8:=[125,32,101,108,115,101,32,123]
def tWhile : List UInt8:=[119,104,105,108,101,32,40]
def tLock : List UInt8:=[108,111,99,107,32]
def tOpen : List UInt8:=[32,123]
def tOut : List UInt8:=[111,117,116,32]
def tThr : List UInt8:=[116,104,114,101,97,100,32,123]
mutual
def stT : Stm → Nat → List UInt8
 | .mk k _ tr sc nm ix es bd el,n =>
  if k = 0 then lineT n [tVar,typeT tr sc,[32],nm,tEq,onlyT es,[59]]
  else if k = 1 then lineT n [nm,indexT ix,tEq,onlyT es,[59]]
  else if k = 2 then lineT n [tIf,onlyT es,tBr] ++ (stsT bd (n + 1) ++ ((if el.isEmpty then [] else lineT n [tElse] ++ stsT el (n + 1)) ++ lineT n [[125]]))
  else if k = 3 then lineT n [tWhile,onlyT es,tBr] ++ (stsT bd (n + 1) ++ lineT n [[125]])
  else if k = 4 then lineT n [tLock,nm,tOpen] ++ (stsT bd (n + 1) ++ lineT n [[125]])
  else if k = 5 then lineT n [tOut,onlyT es,[59]]
  else []
def stsT : List Stm → Nat → List UInt8
 | [],_ => []
 | s :: r,n => stT s n ++ stsT r n
end
mutual
def Stm.cnt : Stm → Nat
 | .mk _ _ _ _ _ _ _ bd el => 1 + cntS bd + cntS el
def cntS : List Stm → Nat
 | [] => 0
 | s :: r => s.cnt + cntS r
end
def GoodE (x : Ex) : Prop:=x.cnt < 1000000 ∧ Nums x ∧ x.txt.length ≤ 1000000 ∧ Fit 0 1 x
def NmOk (t : List UInt8) : Prop:=t = [] ∨ NameB t
theorem NmOk.len {t : List UInt8} (h : NmOk t) : t.length ≤ 100000:=by
 rcases h with rfl | ⟨_,_,_,_,_,h24,_⟩
 · simp
 · omega
inductive GoodS : Stm → Prop
 | mk {k a : Int} {tr sc : Bool} {nm : List UInt8} {ix es : List Ex} {bd el : List Stm} : 0 ≤ k → k ≤ 5 → (∀ x ∈ ix,GoodE x) → (∀ x ∈ es,GoodE x) → NmOk nm → (∀ s ∈ bd,GoodS s) → (∀ s ∈ el,GoodS s) → GoodS (.mk k a tr sc nm ix es bd el)
theorem stsT_append (a b : List Stm) (n : Nat) : stsT (a ++ b) n = stsT a n ++ stsT b n:=by
 induction a with
 | nil => simp [stsT]
 | cons s r ih => simp [stsT,ih]
theorem cnt_mem {s : Stm} : ∀ {l : List Stm},s ∈ l → s.cnt ≤ cntS l
 | x :: r,h => by
  simp only [cntS]
  rcases List.mem_cons.1 h with rfl | h
  · omega
  · have:=cnt_mem h
    omega
theorem cnt_parts (s : Stm) : s.cnt = 1 + cntS s.bd + cntS s.el:=by
 cases s
 simp [Stm.cnt,Stm.bd,Stm.el]
theorem lineT_len (n : Nat) (ps : List (List UInt8)) : (lineT n ps).length = n + ps.flatten.length + 1:=by
 simp [lineT]
 omega
end Go.Proofs.YtkhbbapocamlmaaDoor
namespace Go.Proofs.YtkhbbapocamlmaaDoor
open Go Go.RowKit
def rrCells (sl : Value) (nx op c a : Int) : Array Value:=#[sl,.int .i64 nx,.int .i64 op,.int .i64 c,.int .i64 a]
def RrAt (W : World) (rb : Nat) (sl : Value) (nx op c a : Int) : Prop:=W.heap[rb]? = some (.cells (rrCells sl nx op c a) 53 (0,0))
section
variable {W X : World} {rb : Nat} {sl : Value} {nx op c a : Int}
theorem RrAt.cells (h : RrAt W rb sl nx op c a) :
 W.cell? ⟨rb,0,none⟩ = some sl ∧ W.cell? ⟨rb,1,none⟩ = some (.int .i64 nx) ∧ W.cell? ⟨rb,2,none⟩ = some (.int .i64 op) ∧ W.cell? ⟨rb,3,none⟩ = some (.int .i64 c) ∧ W.cell? ⟨rb,4,none⟩ = some (.int .i64 a):=by
 refine ⟨?_,?_,?_,?_,?_⟩ <;> rw [cell_of_row _ _ _ _ _ _ h] <;> rfl
theorem RrAt.lt (h : RrAt W rb sl nx op c a) : rb < W.heap.size:=(Array.getElem?_eq_some_iff.1 h).1
theorem RrAt.frozen (h : RrAt W rb sl nx op c a) (o : Nat) : W.frozen? ⟨rb,o,none⟩ = false:=frozen_of_row W rb o _ _ h
theorem RrAt.kept (h : RrAt W rb sl nx op c a) (hb : Below W.heap.size W X) : RrAt X rb sl nx op c a:=(hb.block rb h.lt).trans h
theorem RrAt.set1 (h : RrAt W rb sl nx op c a) (v : Int) : RrAt (W.setCell ⟨rb,1,none⟩ (.int .i64 v)) rb sl v op c a:=heap_setCell_same W rb 1 _ _ _ h
theorem RrAt.set2 (h : RrAt W rb sl nx op c a) (v : Int) : RrAt (W.setCell ⟨rb,2,none⟩ (.int .i64 v)) rb sl nx v c a:=heap_setCell_same W rb 2 _ _ _ h
theorem RrAt.set3 (h : RrAt W rb sl nx op c a) (v : Int) : RrAt (W.setCell ⟨rb,3,none⟩ (.int .i64 v)) rb sl nx op v a:=heap_setCell_same W rb 3 _ _ _ h
theorem RrAt.set4 (h : RrAt W rb sl nx op c a) (v : Int) : RrAt (W.setCell ⟨rb,4,none⟩ (.int .i64 v)) rb sl nx op c v:=heap_setCell_same W rb 4 _ _ _ h
theorem RrAt.setO (h : RrAt W rb sl nx op c a) {b : Nat} (hne : rb ≠ b) (o : Nat) (v : Value) : RrAt (W.setCell ⟨b,o,none⟩ v) rb sl nx op c a:=(heap_setCell_other W ⟨b,o,none⟩ rb v hne).trans h
theorem RrAt.alloc (h : RrAt W rb sl nx op c a) (o : Obj) : RrAt (W.alloc o) rb sl nx op c a:=(Below.heap_alloc W o rb h.lt).trans h
theorem RrAt.drewN (h : RrAt W rb sl nx op c a) (n : Nat) : RrAt (W.drewN n) rb sl nx op c a:=h
theorem RrAt.drew (h : RrAt W rb sl nx op c a) : RrAt W.drew rb sl nx op c a:=h
end
structure Rr (W : World) (rb g cap : Nat) (ws : List Wd) (i : Nat) (x : Wd) (op c a : Int) : Prop where
 rd : RrAt W rb (.slice (some ⟨g,0,none⟩) ws.length cap) i op c a
 wc : WCells W g ws
 ne : g ≠ rb
 at_ : ws[i]? = some x
theorem Rr.kept {W X : World} {rb g cap : Nat} {ws : List Wd} {i : Nat} {x : Wd} {op c a : Int} (R : Rr W rb g cap ws i x op c a) (hb : Below W.heap.size W X) : Rr X rb g cap ws i x op c a :=
 ⟨R.rd.kept hb,R.wc.kept (fun k e => hb.block k (by rw [e];exact R.wc.lt)) hb.size,R.ne,R.at_⟩
theorem Rr.alloc {W : World} {rb g cap : Nat} {ws : List Wd} {i : Nat} {x : Wd} {op c a : Int} (R : Rr W rb g cap ws i x op c a) (o : Obj) : Rr (W.alloc o) rb g cap ws i x op c a :=
 R.kept ((Below.refl _ _).alloc (Nat.le_refl _) _)
theorem Rr.facts {W : World} {rb g cap : Nat} {ws : List Wd} {i : Nat} {x : Wd} {op c a : Int} (R : Rr W rb g cap ws i x op c a) :
 (W.cell? ⟨rb,0,none⟩ = some (.slice (some ⟨g,0,none⟩) ws.length cap) ∧ W.cell? ⟨rb,1,none⟩ = some (.int .i64 i) ∧ W.cell? ⟨rb,2,none⟩ = some (.int .i64 op) ∧ W.cell? ⟨rb,3,none⟩ = some (.int .i64 c) ∧ W.cell? ⟨rb,4,none⟩ = some (.int .i64 a)) ∧
 (W.cell? ⟨g,i * 4,none⟩ = some (.int .i64 x.k) ∧ W.cell? ⟨g,i * 4 + 1,none⟩ = some (.string (bstr x.t)) ∧ W.cell? ⟨g,i * 4 + 2,none⟩ = some (.int .i64 x.n) ∧ W.cell? ⟨g,i * 4 + 3,none⟩ = some (.int .i64 x.a)) ∧
 rb < W.heap.size ∧ g < W.heap.size ∧ (i : Int) < ws.length ∧ (0 : Int) ≤ i ∧ (∀ o,W.frozen? ⟨rb,o,none⟩ = false) :=
 ⟨R.rd.cells,R.wc.at_ i x R.at_,R.rd.lt,R.wc.lt,by have:=(List.getElem?_eq_some_iff.1 R.at_).1;omega,Int.natCast_nonneg _,R.rd.frozen⟩
def isB (x : Wd) (c : Int) (t : List UInt8) : Bool:=decide (c = 0) && ((decide (x.k = 2) || decide (x.k = 0)) && decide (x.t = t))
theorem rr_is (rb g cap : Nat) (ws : List Wd) (i : Nat) (x : Wd) (op c a : Int) (s : ByteArray) (w : World) (R0 : Rr w rb g cap ws i x op c a) (b : Bool) (hb : isB x c s.data.toList = b) :
 Calls Tryd.prog 56 #[.pointer (some ⟨rb,0,none⟩),.string s] w fun e w' => e = .returned (.bool b) ∧ Below w.heap.size w w':=by
 have R:=hid R0
 obtain ⟨⟨r0,r1,_,r3,_⟩,⟨c0,c1,c2,c3⟩,hrl,hgl,hi1,hi2,_⟩:=R0.facts
 have hn1 : rb ≠ w.heap.size:=by omega
 have hn2 : g ≠ w.heap.size:=by omega
 have hn3 : w.heap.size ≠ rb:=by omega
 have hn4 : w.heap.size ≠ g:=by omega
 clear R0
 have hs : ((bstr x.t).toList == s.toList) = decide (x.t = s.data.toList):=by
  have:=bstr_eq (a:=x.t) (b:=s.data.toList)
  rwa [show bstr s.data.toList = s from by (obtain ⟨d⟩:=s;simp [bstr])] at this
 by_cases hc : c = 0
 · subst hc
   by_cases hk2 : x.k = 2
   · have k2 : (x.k == 2) = true:=by simp [hk2]
     have hR : b = ((bstr x.t).toList == s.toList):=by (rw [hs,← hb];simp [isB,hk2])
     have HR:=hid hR
     clear hk2 hs hb hR
     go_enter Tryd.func56,Tryd.ntmps56
     go_wp2
     go_region
     go_wp2
     go_ret
     exact ⟨by rw [HR.out];rfl,by (refine Fr.below ?_;(with_reducible repeat first | exact Fr.refl _ _ | refine Fr.alloc ?_ _ | refine Fr.drewN ?_ _ | refine Fr.drew ?_ | (refine Fr.set ?_ ?_ _ _;rotate_left;first | exact .inl rfl | (right;simp;done) | (right;simp;omega) | (right;omega)) | refine Fr.step ?_ (by assumption) | refine Fr.stepB ?_ (by assumption)))⟩
   · have k2 : (x.k == 2) = false:=by simp [hk2]
     by_cases hk0 : x.k = 0
     · have k0 : (x.k == 0) = true:=by simp [hk0]
       have hR : b = ((bstr x.t).toList == s.toList):=by (rw [hs,← hb];simp [isB,hk0])
       have HR:=hid hR
       clear hk2 hk0 hs hb hR
       go_enter Tryd.func56,Tryd.ntmps56
       go_wp2
       go_region
       go_wp2
       go_ret
       exact ⟨by rw [HR.out];rfl,by (refine Fr.below ?_;(with_reducible repeat first | exact Fr.refl _ _ | refine Fr.alloc ?_ _ | refine Fr.drewN ?_ _ | refine Fr.drew ?_ | (refine Fr.set ?_ ?_ _ _;rotate_left;first | exact .inl rfl | (right;simp;done) | (right;simp;omega) | (right;omega)) | refine Fr.step ?_ (by assumption) | refine Fr.stepB ?_ (by assumption)))⟩
     · have k0 : (x.k == 0) = false:=by simp [hk0]
       have hR : b = false:=by (rw [← hb];simp [isB,hk0,hk2])
       subst hR
       clear hk2 hk0 hs hb
       go_enter Tryd.func56,Tryd.ntmps56
       go_wp2
       go_region
       go_wp2
       go_ret
       exact ⟨rfl,by (refine Fr.below ?_;(with_reducible repeat first | exact Fr.refl _ _ | refine Fr.alloc ?_ _ | refine Fr.drewN ?_ _ | refine Fr.drew ?_ | (refine Fr.set ?_ ?_ _ _;rotate_left;first | exact .inl rfl | (right;simp;done) | (right;simp;omega) | (right;omega)) | refine Fr.step ?_ (by assumption) | refine Fr.stepB ?_ (by assumption)))⟩
 · have hd : (c == 0) = false:=by simp [hc]
   have hR : b = false:=by (rw [← hb];simp [isB,hc])
   subst hR
   clear hc hs hb
   go_enter Tryd.func56,Tryd.ntmps56
   go_wp2
   go_region
   go_wp2
   go_ret
   exact ⟨rfl,by (refine Fr.below ?_;(with_reducible repeat first | exact Fr.refl _ _ | refine Fr.alloc ?_ _ | refine Fr.drewN ?_ _ | refine Fr.drew ?_ | (refine Fr.set ?_ ?_ _ _;rotate_left;first | exact .inl rfl | (right;simp;done) | (right;simp;omega) | (right;omega)) | refine Fr.step ?_ (by assumption) | refine Fr.stepB ?_ (by assumption)))⟩
theorem rr_fail0 (rb g cap : Nat) (ws : List Wd) (i : Nat) (x : Wd) (op a e0 : Int) (w : World) (R0 : Rr w rb g cap ws i x op 0 a) :
 Calls Tryd.prog 75 #[.pointer (some ⟨rb,0,none⟩),.int .i64 e0] w fun e w' => e = .returned (.tuple #[]) ∧ RrAt w' rb (.slice (some ⟨g,0,none⟩) ws.length cap) i op e0 x.a ∧ Fr (some rb) w w':=by
 obtain ⟨⟨r0,r1,_,r3,_⟩,⟨c0,c1,c2,c3⟩,hrl,hgl,hi1,hi2,hf⟩:=R0.facts
 have hn1 : g ≠ rb:=R0.ne
 have hn2 : rb ≠ g:=Ne.symm hn1
 have hf3:=hf 3
 have hf4:=hf 4
 have hr:=R0.rd
 clear R0 hf
 go_enter Tryd.func75,Tryd.ntmps75
 go_wp2
 go_region
 all_goals go_wp2
 all_goals go_end0
 all_goals exact ⟨rfl,(hr.set3 _).set4 _,by (with_reducible repeat first | exact Fr.refl _ _ | refine Fr.alloc ?_ _ | refine Fr.drewN ?_ _ | refine Fr.drew ?_ | (refine Fr.set ?_ ?_ _ _;rotate_left;first | exact .inl rfl | (right;simp;done) | (right;simp;omega) | (right;omega)) | refine Fr.step ?_ (by assumption) | refine Fr.stepB ?_ (by assumption))⟩
theorem rr_failN (rb g cap : Nat) (ws : List Wd) (i : Nat) (x : Wd) (op c a e0 : Int) (w : World) (R0 : Rr w rb g cap ws i x op c a) (hc : c ≠ 0) :
 Calls Tryd.prog 75 #[.pointer (some ⟨rb,0,none⟩),.int .i64 e0] w fun e w' => e = .returned (.tuple #[]) ∧ w' = w:=by
 obtain ⟨⟨r0,r1,_,r3,_⟩,⟨c0,c1,c2,c3⟩,hrl,hgl,hi1,hi2,hf⟩:=R0.facts
 have hd : (c == 0) = false:=by simp [hc]
 clear R0 hf hc
 go_enter Tryd.func75,Tryd.ntmps75
 go_wp2
 go_end0
 exact ⟨rfl,rfl⟩
end Go.Proofs.YtkhbbapocamlmaaDoor
namespace Go.Proofs.YtkhbbapocamlmaaDoor
open Go Go.RowKit
inductive IsExP (ok : Nat → Prop) (W : World) : Ex → Value → Prop
 | leaf {k o n : Int} {nm : List UInt8} {a : Nat} : IsExP ok W (.mk k o n nm [] a) (.slice none 0 0)
 | node {k o n : Int} {nm : List UInt8} {ks : List Ex} {a : Nat} (g cap : Nat) (cs : Array Value) (fr : Nat × Nat) (vs : Nat → Value) : ok g → W.heap[g]? = some (.cells cs 71 fr) → ks ≠ [] →
  (∀ i e,ks[i]? = some e → ∀ j u,(exCells e (vs i))[j]? = some u → cs[i * 6 + j]? = some u) → (∀ i e,ks[i]? = some e → IsExP ok W e (vs i)) → IsExP ok W (.mk k o n nm ks a) (.slice (some ⟨g,0,none⟩) ks.length cap)
theorem IsExP.kept {ok ok' : Nat → Prop} {W X : World} {e : Ex} {v : Value} (h : IsExP ok W e v) (hk : ∀ g,ok g → g < W.heap.size → X.heap[g]? = W.heap[g]? ∧ ok' g) : IsExP ok' X e v:=by
 induction h with
 | leaf => exact .leaf
 | node g cap cs fr vs hg hb hne hc _ ih =>
  have:=hk g hg (Array.getElem?_eq_some_iff.1 hb).1
  exact .node g cap cs fr vs this.2 (this.1.trans hb) hne hc ih
theorem IsEx.toP {lo : Nat} {W X : World} {ok : Nat → Prop} {e : Ex} {v : Value} (h : IsEx lo W e v) (hk : ∀ g,lo ≤ g → g < W.heap.size → X.heap[g]? = W.heap[g]? ∧ ok g) : IsExP ok X e v:=by
 induction h with
 | leaf => exact .leaf
 | node g cap cs fr vs hg hb hne hc _ ih =>
  have:=hk g hg (Array.getElem?_eq_some_iff.1 hb).1
  exact .node g cap cs fr vs this.2 (this.1.trans hb) hne hc ih
theorem IsExP.toEx {lo : Nat} {W : World} {ok : Nat → Prop} {e : Ex} {v : Value} (h : IsExP ok W e v) (hk : ∀ g,ok g → lo ≤ g) : IsEx lo W e v:=by
 induction h with
 | leaf => exact .leaf
 | node g cap cs fr vs hg hb hne hc _ ih => exact .node g cap cs fr vs (hk g hg) hb hne hc ih
def exRow : List (Ex × Value) → List Value
 | [] => []
 | (x,u) :: r => exCells x u ++ exRow r
theorem exRow_snoc (l : List (Ex × Value)) (x : Ex) (u : Value) : exRow (l ++ [(x,u)]) = exRow l ++ exCells x u:=by
 induction l with
 | nil => simp [exRow]
 | cons y r ih => simp [exRow,ih]
theorem exRow_at : ∀ (l : List (Ex × Value)) (i : Nat) (x : Ex) (u : Value) (j : Nat) (v : Value),l[i]? = some (x,u) → (exCells x u)[j]? = some v → (exRow l)[i * 6 + j]? = some v
 | [],i,x,u,j,v,h,_ => by simp at h
 | y :: r,0,x,u,j,v,h,hv => by
  simp at h
  subst h
  have hj : j < 6:=(List.getElem?_eq_some_iff.1 hv).1
  show (exCells x u ++ exRow r)[0 * 6 + j]? = _
  rw [List.getElem?_append_left (by show 0 * 6 + j < 6;omega),Nat.zero_mul,Nat.zero_add]
  exact hv
 | y :: r,i + 1,x,u,j,v,h,hv => by
  show (exCells y.1 y.2 ++ exRow r)[(i + 1) * 6 + j]? = _
  rw [List.getElem?_append_right (by show 6 ≤ _;omega)]
  have e : (i + 1) * 6 + j - (exCells y.1 y.2).length = i * 6 + j:=by show (i + 1) * 6 + j - 6 = _;omega
  rw [e]
  exact exRow_at r i x u j v (by simpa using h) hv
def GrowsL (B : Nat) (W : World) (es : List Ex) (v : Value) (l : List (Ex × Value)) : Prop :=
 l.map (·.1) = es ∧ W.ownsRow B 71 6 v es.length (exRow l) ∧ (∀ p ∈ l,IsExP (fun g => B ≤ g ∧ v.ownBlock ≠ some g) W p.1 p.2) ∧ (es = [] → v = .slice none 0 0)
def Grows (B : Nat) (W : World) (es : List Ex) (v : Value) : Prop:=∃ l,GrowsL B W es v l
theorem Grows.nil (B : Nat) (W : World) : Grows B W [] (.slice none 0 0):=⟨[],rfl,World.ownsRow_nil W B _ 6,by simp,fun _ => rfl⟩
theorem GrowsL.fr {B rb : Nat} {W X : World} {es : List Ex} {v : Value} {l : List (Ex × Value)} (h : GrowsL B W es v l) (hf : Fr (some rb) W X) (hr : rb < B) : GrowsL B X es v l:=by
 obtain ⟨h1,h2,h3,h4⟩:=h
 have hg : W.grownBy X (some rb):=hf
 refine ⟨h1,h2.kept hg ?_,fun p hp => (h3 p hp).kept fun g hg hl => ⟨hf.block hl (by simp;omega),hg⟩,h4⟩
 right
 intro e
 have:=h2.lt _ e
 omega
theorem Grows.ex {B : Nat} {W : World} {es : List Ex} {v : Value} (h : Grows B W es v) (k o n : Int) (nm : List UInt8) (a : Nat) : IsEx B W (.mk k o n nm es a) v:=by
 obtain ⟨l,rfl,h2,h3,h4⟩:=h
 rcases h2.2 with ⟨rfl,hn⟩ | ⟨g,cap,cur,rfl,hB,hg,hnc,_,hcs,hx⟩
 · have : l.map (·.1) = []:=List.eq_nil_of_length_eq_zero hn
   rw [this]
   exact .leaf
 · by_cases hl : l.map (·.1) = []
   · have:=h4 hl
     cases this
   · refine .node g cap cur (0,0) (fun i => ((l[i]?).map (·.2)).getD undef) hB hg hl ?_ ?_
     · intro i e he j u hu
       rw [List.getElem?_map] at he
       obtain ⟨p,hp,rfl⟩:=Option.map_eq_some_iff.1 he
       rw [hp] at hu
       have hcell:=exRow_at l i p.1 p.2 j u hp hu
       rw [← hx] at hcell
       rw [List.getElem?_take] at hcell
       split at hcell
       · simpa using hcell
       · cases hcell
     · intro i e he
       rw [List.getElem?_map] at he
       obtain ⟨p,hp,rfl⟩:=Option.map_eq_some_iff.1 he
       simp only [hp,Option.map_some,Option.getD_some]
       exact (h3 p (List.mem_of_getElem? hp)).toEx fun g hg => hg.1
theorem GrowsL.more {B : Nat} {W X : World} {es : List Ex} {v : Value} {x : Ex} {u : Value} {g cap H : Nat} {l : List (Ex × Value)} (h : GrowsL B W es v l) (hx : IsEx B W x u) (hxn : ∀ j,v.ownBlock = some j → IsExP (fun b => B ≤ b ∧ b ≠ j) W x u)
 (hg : W.grownBy X v.ownBlock) (hH : W.heap.size = H) (hv : v.ownBlock = some g ∨ g = H) (ho : X.ownsRow B 71 6 (.slice (some ⟨g,0,none⟩) (es.length + 1) cap) (es.length + 1) (exRow l ++ exCells x u)) :
 GrowsL B X (es ++ [x]) (.slice (some ⟨g,0,none⟩) (es.length + 1) cap) (l ++ [(x,u)]):=by
 obtain ⟨h1,h2,h3,h4⟩:=h
 have hne : ∀ b,b < W.heap.size → v.ownBlock ≠ some b → b ≠ g:=by
  intro b hb hn e
  subst e
  rcases hv with hv | hv
  · exact hn hv
  · omega
 refine ⟨by simp [h1],?_,?_,by simp⟩
 · rw [exRow_snoc,List.length_append]
   exact ho
 · intro p hp
   rcases List.mem_append.1 hp with hp | hp
   · refine (h3 p hp).kept fun b hb hl => ⟨hg.block b hl (fun e => hb.2 e.symm),hb.1,?_⟩
     have:=hne b hl hb.2
     simpa [Value.ownBlock] using fun e => this e.symm
   · simp at hp
     subst hp
     cases hvb : v.ownBlock with
     | none => exact hx.toP fun b hb hl => ⟨hg.block b hl (by rw [hvb];simp),hb,by
      have:=hne b hl (by rw [hvb];simp)
      simpa [Value.ownBlock] using fun e => this e.symm⟩
     | some j => exact (hxn j hvb).kept fun b hb hl => ⟨hg.block b hl (by rw [hvb];simpa using hb.2),hb.1,by
      have:=hne b hl (by rw [hvb];simpa using fun e => hb.2 e.symm)
      simpa [Value.ownBlock] using fun e => this e.symm⟩
theorem infoEx : (Tryd.prog.info? 71).map (fun i => (i.zero,i.size,i.bytes)) = some (some (.agg #[.int .i64 0,.int .i64 0,.int .i64 0,.string ⟨#[]⟩,.slice none 0 0,.int .i64 0]),6,72):=by kernel_rfl
def nxOf (W : World) (rb : Nat) : Nat:=match W.cell? ⟨rb,1,none⟩ with | some (.int _ n) => n.toNat | _ => 0
section
variable {ok : Nat → Prop} {W X : World} {e : Ex} {v : Value}
theorem IsExP.alloc (h : IsExP ok W e v) (o : Obj) : IsExP ok (W.alloc o) e v:=h.kept fun g hg hl => ⟨Below.heap_alloc W o g hl,hg⟩
theorem IsExP.drew (h : IsExP ok W e v) : IsExP ok W.drew e v:=h.kept fun g hg hl => ⟨rfl,hg⟩
theorem IsExP.set (h : IsExP ok W e v) {b : Nat} (hb : ∀ g,ok g → g ≠ b) (o : Nat) (x : Value) : IsExP ok (W.setCell ⟨b,o,none⟩ x) e v:=h.kept fun g hg _ => ⟨heap_setCell_other W ⟨b,o,none⟩ g x (hb g hg),hg⟩
theorem IsExP.fr {rb : Nat} (h : IsExP ok W e v) (hf : Fr (some rb) W X) (hr : ∀ g,ok g → g ≠ rb) : IsExP ok X e v:=h.kept fun g hg hl => ⟨hf.block hl (by simp;exact hr g hg),hg⟩
theorem IsExP.stay (h : IsExP ok W e v) (hf : Below W.heap.size W X) : IsExP ok X e v:=h.kept fun g hg hl => ⟨hf.block g hl,hg⟩
theorem IsExP.weak {ok' : Nat → Prop} (h : IsExP ok W e v) (hk : ∀ g,ok g → ok' g) : IsExP ok' W e v:=h.kept fun g hg _ => ⟨rfl,hk g hg⟩
theorem IsExP.twoAt {n : Nat} {x y : Ex} {u u' : Value} (h : IsExP ok W x u) (h2 : IsExP ok W y u') (hn : n = W.heap.size) (ho : ok W.heap.size) (k o m : Int) (nm : List UInt8) (a : Nat) :
 IsExP ok (W.alloc (.cells #[.int .i64 x.k,.int .i64 x.op,.int .i64 x.n,.string (bstr x.nm),u,.int .i64 x.a,.int .i64 y.k,.int .i64 y.op,.int .i64 y.n,.string (bstr y.nm),u',.int .i64 y.a] 71)) (.mk k o m nm [x,y] a) (.slice (some ⟨n,0,none⟩) 2 2):=by
 subst hn
 refine .node W.heap.size 2 _ (0,0) (fun i => if i = 0 then u else u') ho (heap_new _ _) (by simp) ?_ ?_
 · intro i e he j w hw
   match i,he with
   | 0,he =>
    simp at he
    subst he
    simp only [exCells,if_true] at hw
    match j,hw with
    | 0,hw | 1,hw | 2,hw | 3,hw | 4,hw | 5,hw => simpa using hw
    | j + 6,hw => simp at hw
   | 1,he =>
    simp at he
    subst he
    simp only [exCells,if_neg (show ¬ (1 = 0) by decide)] at hw
    match j,hw with
    | 0,hw | 1,hw | 2,hw | 3,hw | 4,hw | 5,hw => simpa using hw
    | j + 6,hw => simp at hw
   | i + 2,he => simp at he
 · intro i e he
   match i,he with
   | 0,he =>
    simp at he
    subst he
    exact h.alloc _
   | 1,he =>
    simp at he
    subst he
    exact h2.alloc _
   | i + 2,he => simp at he
end
end Go.Proofs.YtkhbbapocamlmaaDoor
namespace Go.Proofs.YtkhbbapocamlmaaDoor
open Go Go.RowKit
def KOk (x : Wd) : Prop:=(x.k = 0 → ∃ c r,x.t = c :: r ∧ isLetter c = true) ∧ (x.k = 2 → ∃ c r,x.t = c :: r ∧ isLetter c = false)
theorem KOk.sgn {x : Wd} (h : KOk x) {c : UInt8} {r : List UInt8} (hc : isLetter c = false) : ((x.k = 2 ∨ x.k = 0) ∧ x.t = c :: r) ↔ Sg x (c :: r):=by
 constructor
 · rintro ⟨h1 | h1,h2⟩
   · exact ⟨h1,h2⟩
   · obtain ⟨c',r',h3,h4⟩:=h.1 h1
     rw [h2] at h3
     cases h3
     rw [hc] at h4
     cases h4
 · rintro ⟨h1,h2⟩
   exact ⟨.inl h1,h2⟩
theorem KOk.nam {x : Wd} (h : KOk x) {c : UInt8} {r : List UInt8} (hc : isLetter c = true) : ((x.k = 2 ∨ x.k = 0) ∧ x.t = c :: r) ↔ (x.k = 0 ∧ x.t = c :: r):=by
 constructor
 · rintro ⟨h1 | h1,h2⟩
   · obtain ⟨c',r',h3,h4⟩:=h.2 h1
     rw [h2] at h3
     cases h3
     rw [hc] at h4
     cases h4
   · exact ⟨h1,h2⟩
 · rintro ⟨h1,h2⟩
   exact ⟨.inr h1,h2⟩
structure EnvR (rb g : Nat) (ws : List Wd) (W : World) : Prop where
 wc : WCells W g ws
 ne : g ≠ rb
 few : ws.length < 1000000
 long : ∀ x ∈ ws,x.t.length ≤ 100000
 kok : ∀ x ∈ ws,KOk x
theorem EnvR.kept {rb g : Nat} {ws : List Wd} {W X : World} (E : EnvR rb g ws W) (hf : Fr (some rb) W X) : EnvR rb g ws X :=
 ⟨E.wc.kept (fun k e => hf.block (by rw [e];exact E.wc.lt) (by simp;rw [e];exact E.ne)) hf.size,E.ne,E.few,E.long,E.kok⟩
theorem EnvR.stay {rb g : Nat} {ws : List Wd} {W X : World} (E : EnvR rb g ws W) (hf : Below W.heap.size W X) : EnvR rb g ws X:=E.kept (.of hf)
theorem EnvR.setO {rb g : Nat} {ws : List Wd} {W : World} (E : EnvR rb g ws W) {b : Nat} (hne : g ≠ b) (k : Nat) (v : Value) : EnvR rb g ws (W.setCell ⟨b,k,none⟩ v) :=
 ⟨E.wc.kept (fun j e => heap_setCell_other W ⟨b,k,none⟩ j v (by rw [e];exact hne)) (by simp),E.ne,E.few,E.long,E.kok⟩
def StR (W : World) (rb g cap : Nat) (ws : List Wd) (o : Int) : RS → Prop
 | .ok ts => ts <:+ ws ∧ Fin ts ∧ ∃ a,RrAt W rb (.slice (some ⟨g,0,none⟩) ws.length cap) ((ws.length - ts.length : Nat) : Int) o 0 a
 | .bad c b => c ≠ 0 ∧ ∃ i : Nat,i < ws.length ∧ RrAt W rb (.slice (some ⟨g,0,none⟩) ws.length cap) i o c b
section
variable {W X : World} {rb g cap : Nat} {ws : List Wd} {o : Int} {σ : RS}
theorem StR.stay (S : StR W rb g cap ws o σ) (hf : Below W.heap.size W X) : StR X rb g cap ws o σ:=by
 cases σ with
 | ok ts =>
  obtain ⟨h1,h2,a,h3⟩:=S
  exact ⟨h1,h2,a,h3.kept hf⟩
 | bad c b =>
  obtain ⟨h1,i,h2,h3⟩:=S
  exact ⟨h1,i,h2,h3.kept hf⟩
theorem StR.alloc (S : StR W rb g cap ws o σ) (ob : Obj) : StR (W.alloc ob) rb g cap ws o σ:=S.stay ((Below.refl _ _).alloc (Nat.le_refl _) _)
theorem StR.drewN (S : StR W rb g cap ws o σ) (n : Nat) : StR (W.drewN n) rb g cap ws o σ:=S.stay (below_drewN (Below.refl _ _) n)
theorem StR.drew (S : StR W rb g cap ws o σ) : StR W.drew rb g cap ws o σ:=S.stay (Below.refl _ _).drew
theorem StR.rd (S : StR W rb g cap ws o σ) : ∃ (i : Nat) (c a : Int),RrAt W rb (.slice (some ⟨g,0,none⟩) ws.length cap) i o c a ∧ (c = 0 ↔ σ.good = true) ∧ ∀ X o',RrAt X rb (.slice (some ⟨g,0,none⟩) ws.length cap) i o' c a → StR X rb g cap ws o' σ:=by
 cases σ with
 | ok ts =>
  obtain ⟨h1,h2,a,h3⟩:=S
  exact ⟨_,0,a,h3,by simp [RS.good],fun X o' h => ⟨h1,h2,a,h⟩⟩
 | bad c b =>
  obtain ⟨h1,i,h2,h3⟩:=S
  exact ⟨i,c,b,h3,by simp [RS.good,h1],fun X o' h => ⟨h1,i,h2,h⟩⟩
theorem StR.setO (S : StR W rb g cap ws o σ) {b : Nat} (hne : rb ≠ b) (k : Nat) (v : Value) : StR (W.setCell ⟨b,k,none⟩ v) rb g cap ws o σ:=by
 obtain ⟨i,c,a,h1,_,h2⟩:=S.rd
 exact h2 _ _ (h1.setO hne k v)
theorem StR.set2 (S : StR W rb g cap ws o σ) (v : Int) : StR (W.setCell ⟨rb,2,none⟩ (.int .i64 v)) rb g cap ws v σ:=by
 obtain ⟨i,c,a,h1,_,h2⟩:=S.rd
 exact h2 _ _ (h1.set2 v)
theorem StR.at_ (S : StR W rb g cap ws o σ) (E : EnvR rb g ws W) : ∃ (i : Nat) (x : Wd) (c a : Int),Rr W rb g cap ws i x o c a ∧ (∀ t,isB x c t = σ.is t) ∧ (c = 0 → ∃ tt,σ = .ok (x :: tt) ∧ i + 1 = ws.length - tt.length ∧ tt <:+ ws ∧ i < 1000000) ∧ (c ≠ 0 → ∃ b : Nat,a = b ∧ σ = .bad c b):=by
 cases σ with
 | ok ts =>
  obtain ⟨h1,h2,a,h3⟩:=S
  obtain ⟨x,tt,rfl⟩:=h2.ne
  obtain ⟨h4,h5,h6⟩:=suf_at h1
  refine ⟨_,x,0,a,⟨h3,E.wc,E.ne,h4⟩,fun t => by simp [isB,RS.is],fun _ => ⟨tt,rfl,h5,h6,?_⟩,fun h => absurd rfl h⟩
  have:=E.few
  omega
 | bad c b =>
  obtain ⟨h1,i,h2,h3⟩:=S
  exact ⟨i,ws[i],c,b,⟨h3,E.wc,E.ne,List.getElem?_eq_getElem h2⟩,fun t => by simp [isB,RS.is,h1],fun h => absurd h h1,fun _ => ⟨b,rfl,rfl⟩⟩
theorem st_adv {x : Wd} {tt : List Wd} {i : Nat} {a : Int} (S : StR W rb g cap ws o (.ok (x :: tt))) (R : Rr W rb g cap ws i x o 0 a) (hx : x.k ≠ 3) (h5 : i + 1 = ws.length - tt.length) : StR (W.setCell ⟨rb,1,none⟩ (.int .i64 ((i : Int) + 1))) rb g cap ws o (.ok tt) :=
 ⟨(suf_at S.1).2.2,S.2.1.cons hx,a,h5 ▸ R.rd.set1 _⟩
theorem st_dec {n : Nat} (S : StR W rb g cap ws ((n + 1 : Nat) : Int) σ) (hn : n ≤ 32) : StR (W.setCell ⟨rb,2,none⟩ (.int .i64 (wrap64 (((n + 1 : Nat) : Int) - 1)))) rb g cap ws n σ:=by
 have hw : wrap64 (((n + 1 : Nat) : Int) - 1) = (n : Int):=by unfold wrap64;omega
 rw [hw]
 exact S.set2 _
theorem StR.ok_cells {x : Wd} {tt : List Wd} (S : StR W rb g cap ws o (.ok (x :: tt))) (E : EnvR rb g ws W) : ∃ (i : Nat) (a : Int),Rr W rb g cap ws i x o 0 a ∧ i + 1 = ws.length - tt.length ∧ tt <:+ ws ∧ i < 1000000 ∧ x ∈ ws:=by
 obtain ⟨h1,h2,a,h3⟩:=S
 obtain ⟨h4,h5,h6⟩:=suf_at h1
 exact ⟨_,a,⟨h3,E.wc,E.ne,h4⟩,h5,h6,by have:=E.few;omega,h1.subset (by simp)⟩
theorem StR.mk_ok {tt : List Wd} {i : Nat} {a : Int} (h : RrAt W rb (.slice (some ⟨g,0,none⟩) ws.length cap) i o 0 a) (hi : i = ws.length - tt.length) (hs : tt <:+ ws) (hF : Fin tt) : StR W rb g cap ws o (.ok tt):=⟨hs,hF,a,hi ▸ h⟩
theorem StR.mk_bad {c : Int} {b i : Nat} (h : RrAt W rb (.slice (some ⟨g,0,none⟩) ws.length cap) i o c b) (hi : i < ws.length) (hc : c ≠ 0) : StR W rb g cap ws o (.bad c b):=⟨hc,i,hi,h⟩
theorem StR.fin {tt : List Wd} (S : StR W rb g cap ws o (.ok tt)) : Fin tt:=S.2.1
theorem StR.lt (S : StR W rb g cap ws o σ) : rb < W.heap.size:=by
 obtain ⟨i,c,a,h1,_⟩:=S.rd
 exact h1.lt
end
theorem RrAt.nx {W : World} {rb : Nat} {sl : Value} {op c a : Int} {k : Nat} (h : RrAt W rb sl k op c a) : nxOf W rb = k:=by
 unfold nxOf
 rw [h.cells.2.1]
 simp
def msR (W : World) (rb n : Nat) : Nat:=match W.cell? ⟨rb,3,none⟩ with | some (.int _ c) => if c = 0 then n + 1 - nxOf W rb else 0 | _ => 0
def RS.ms : RS → Nat | .ok tt => tt.length + 1 | .bad _ _ => 0
theorem StR.ms {W : World} {rb g cap : Nat} {ws : List Wd} {o : Int} {σ : RS} (S : StR W rb g cap ws o σ) : msR W rb ws.length = σ.ms:=by
 cases σ with
 | ok ts =>
  obtain ⟨h1,h2,a,h3⟩:=S
  have:=h1.length_le
  unfold msR
  rw [h3.cells.2.2.2.1,h3.nx]
  show (if (0 : Int) = 0 then ws.length + 1 - (ws.length - ts.length) else 0) = ts.length + 1
  rw [if_pos rfl]
  omega
 | bad c b =>
  obtain ⟨h1,i,h2,h3⟩:=S
  unfold msR
  rw [h3.cells.2.2.2.1]
  show (if c = 0 then ws.length + 1 - nxOf W rb else 0) = 0
  rw [if_neg h1]
theorem RS.is_ne3 {x : Wd} {tt : List Wd} {t : List UInt8} (h : (RS.ok (x :: tt)).is t = true) : x.k ≠ 3:=by
 simp [RS.is] at h
 omega
theorem Rr.lt {W : World} {rb g cap : Nat} {ws : List Wd} {i : Nat} {x : Wd} {op c a : Int} (R : Rr W rb g cap ws i x op c a) : i < ws.length:=(List.getElem?_eq_some_iff.1 R.at_).1
theorem st_is {rb g cap : Nat} {ws : List Wd} {o : Int} {σ : RS} {W : World} (S : StR W rb g cap ws o σ) (E : EnvR rb g ws W) (s : ByteArray) (b : Bool) (hb : σ.is s.data.toList = b) :
 Calls Tryd.prog 56 #[.pointer (some ⟨rb,0,none⟩),.string s] W fun e w' => e = .returned (.bool b) ∧ Below W.heap.size W w':=by
 obtain ⟨i,x,c,a,R,hi,_,_⟩:=S.at_ E
 exact rr_is rb g cap ws i x o c a s W R b ((hi _).trans hb)
theorem st_fail {rb g cap : Nat} {ws : List Wd} {o : Int} {σ : RS} {W : World} (S : StR W rb g cap ws o σ) (E : EnvR rb g ws W) (e0 : Int) (he : e0 ≠ 0) :
 Calls Tryd.prog 75 #[.pointer (some ⟨rb,0,none⟩),.int .i64 e0] W fun e w' => e = .returned (.tuple #[]) ∧ StR w' rb g cap ws o (σ.fail e0) ∧ Fr (some rb) W w':=by
 obtain ⟨i,x,c,a,R,_,h0,h1⟩:=S.at_ E
 by_cases hc : c = 0
 · subst hc
   obtain ⟨tt,rfl,_⟩:=h0 rfl
   exact (rr_fail0 rb g cap ws i x o a e0 W R).mono fun e w' ⟨h2,h3,h4⟩ => ⟨h2,.mk_bad h3 R.lt he,h4⟩
 · obtain ⟨b,rfl,rfl⟩:=h1 hc
   exact (rr_failN rb g cap ws i x o c b e0 W R hc).mono fun e w' ⟨h2,h3⟩ => ⟨h2,h3 ▸ S,h3 ▸ Fr.refl _ _⟩
theorem need_yes (rb g cap : Nat) (ws : List Wd) (i : Nat) (x : Wd) (op c a : Int) (s : ByteArray) (w : World) (R : Hid (Rr w rb g cap ws i x op c a)) (hb : Hid (isB x c s.data.toList = true)) (hi : i < 1000000) :
 Calls Tryd.prog 58 #[.pointer (some ⟨rb,0,none⟩),.string s] w fun e w' => e = .returned (.tuple #[]) ∧ RrAt w' rb (.slice (some ⟨g,0,none⟩) ws.length cap) ((i + 1 : Nat) : Int) op c a ∧ Fr (some rb) w w':=by
 have hw : wrap64 ((i : Int) + 1) = ((i + 1 : Nat) : Int):=by unfold wrap64;omega
 have HW:=hid hw
 clear hw hi
 go_enter Tryd.func58,Tryd.ntmps58
 go_wp2_with (go_at_call 56;(with_reducible refine (rr_is rb g cap ws i x op c a s _ R.out true hb.out).mono ?_);rintro e' w1 ⟨rfl,hb1⟩;have hR1:=hid (R.out.rd.kept hb1);obtain ⟨q0,q1,q2,q3,q4⟩:=hR1.out.cells;have hl:=hR1.out.lt;have hf1:=hR1.out.frozen 1)
 go_end0
 refine ⟨rfl,?_,by (with_reducible repeat first | exact Fr.refl _ _ | refine Fr.alloc ?_ _ | refine Fr.drewN ?_ _ | refine Fr.drew ?_ | (refine Fr.set ?_ ?_ _ _;rotate_left;first | exact .inl rfl | (right;simp;done) | (right;simp;omega) | (right;omega)) | refine Fr.step ?_ (by assumption) | refine Fr.stepB ?_ (by assumption))⟩
 rw [HW.out]
 exact hR1.out.set1 _
theorem need_no {rb g cap : Nat} {ws : List Wd} {o : Int} {σ : RS} {W : World} (S : Hid (StR W rb g cap ws o σ)) (E : Hid (EnvR rb g ws W)) (s : ByteArray) (hb : Hid (σ.is s.data.toList = false)) :
 Calls Tryd.prog 58 #[.pointer (some ⟨rb,0,none⟩),.string s] W fun e w' => e = .returned (.tuple #[]) ∧ StR w' rb g cap ws o (σ.fail 11) ∧ Fr (some rb) W w':=by
 go_enter Tryd.func58,Tryd.ntmps58
 go_wp2_with (first
  | (go_at_call 56;(with_reducible refine (st_is S.out E.out s false hb.out).mono ?_);rintro e' w1 ⟨rfl,hb1⟩)
  | (go_at_call 75;(with_reducible refine (st_fail (S.out.stay hb1) (E.out.stay hb1) 11 (by decide)).mono ?_);rintro e' w2 ⟨rfl,hs2,hf2⟩))
 ((try simp only [Exit.inBlock,Exit.then]);refine bodyPost_ret (results_none rfl _ _ _) rfl ?_)
 exact ⟨rfl,hs2,by (with_reducible repeat first | exact Fr.refl _ _ | refine Fr.alloc ?_ _ | refine Fr.drewN ?_ _ | refine Fr.drew ?_ | (refine Fr.set ?_ ?_ _ _;rotate_left;first | exact .inl rfl | (right;simp;done) | (right;simp;omega) | (right;omega)) | refine Fr.step ?_ (by assumption) | refine Fr.stepB ?_ (by assumption))⟩
theorem st_need {rb g cap : Nat} {ws : List Wd} {o : Int} {σ : RS} {W : World} (S : StR W rb g cap ws o σ) (E : EnvR rb g ws W) (s : ByteArray) :
 Calls Tryd.prog 58 #[.pointer (some ⟨rb,0,none⟩),.string s] W fun e w' => e = .returned (.tuple #[]) ∧ StR w' rb g cap ws o (σ.need s.data.toList) ∧ Fr (some rb) W w':=by
 cases hb : σ.is s.data.toList with
 | true =>
  obtain ⟨i,x,c,a,R,hi,h0,h1⟩:=S.at_ E
  have hc : c = 0:=by
   refine Decidable.byContradiction fun hc => ?_
   obtain ⟨b,_,rfl⟩:=h1 hc
   cases hb
  subst hc
  obtain ⟨tt,rfl,h5,h6,h7⟩:=h0 rfl
  refine (need_yes rb g cap ws i x o 0 a s W (hid R) (hid ((hi _).trans hb)) h7).mono fun e w' ⟨h2,h3,h4⟩ => ⟨h2,?_,h4⟩
  unfold RS.need
  rw [hb]
  exact .mk_ok h3 h5 h6 (S.fin.cons (RS.is_ne3 hb))
 | false =>
  refine (need_no (hid S) (hid E) s (hid hb)).mono fun e w' ⟨h2,h3,h4⟩ => ⟨h2,?_,h4⟩
  unfold RS.need
  rw [hb]
  exact h3
theorem renter_ok {rb g cap : Nat} {ws : List Wd} {o : Nat} {x : Wd} {tt : List Wd} {W : World} (S0 : StR W rb g cap ws o (.ok (x :: tt))) (E0 : EnvR rb g ws W) (hx : x.k ≠ 3) (ho : o < 32) :
 Calls Tryd.prog 98 #[.pointer (some ⟨rb,0,none⟩)] W fun e w' => e = .returned (.bool true) ∧ StR w' rb g cap ws ((o + 1 : Nat) : Int) (.ok tt) ∧ Fr (some rb) W w':=by
 obtain ⟨i,a,R,h5,h6,h7,_⟩:=S0.ok_cells E0
 have hRd:=hid R.rd
 obtain ⟨q0,q1,q2,q3,q4⟩:=hRd.out.cells
 have hl:=hRd.out.lt
 have hf1:=hRd.out.frozen 1
 have hf2:=hRd.out.frozen 2
 have hd : (decide ((o : Int) = 32)) = false:=by simp;omega
 have hd2 : ((o : Int) == 32) = false:=by simp;omega
 have hw1 : wrap64 ((o : Int) + 1) = ((o + 1 : Nat) : Int):=by unfold wrap64;omega
 have hw2 : wrap64 ((i : Int) + 1) = ((i + 1 : Nat) : Int):=by unfold wrap64;omega
 have HX:=hid (And.intro hw1 hw2)
 have HF:=hid (And.intro h5 (And.intro h6 (S0.fin.cons hx)))
 clear hw1 hw2 ho h5 h6 h7 R S0 E0 hx
 go_enter Tryd.func98,Tryd.ntmps98
 go_wp2
 go_ret
 refine ⟨rfl,?_,by (with_reducible repeat first | exact Fr.refl _ _ | refine Fr.alloc ?_ _ | refine Fr.drewN ?_ _ | refine Fr.drew ?_ | (refine Fr.set ?_ ?_ _ _;rotate_left;first | exact .inl rfl | (right;simp;done) | (right;simp;omega) | (right;omega)) | refine Fr.step ?_ (by assumption) | refine Fr.stepB ?_ (by assumption))⟩
 rw [HX.out.1,HX.out.2]
 exact .mk_ok ((hRd.out.set2 _).set1 _) HF.out.1 HF.out.2.1 HF.out.2.2
theorem renter_lim {rb g cap : Nat} {ws : List Wd} {σ : RS} {W : World} (S : Hid (StR W rb g cap ws 32 σ)) (E : Hid (EnvR rb g ws W)) :
 Calls Tryd.prog 98 #[.pointer (some ⟨rb,0,none⟩)] W fun e w' => e = .returned (.bool false) ∧ StR w' rb g cap ws 32 (σ.fail 2) ∧ Fr (some rb) W w':=by
 obtain ⟨i,c,a,hr,_,_⟩:=S.out.rd
 obtain ⟨q0,q1,q2,q3,q4⟩:=hr.cells
 have hl:=hr.lt
 clear hr
 go_enter Tryd.func98,Tryd.ntmps98
 go_wp2_with (go_at_call 75;(with_reducible refine (st_fail S.out E.out 2 (by decide)).mono ?_);rintro e' w2 ⟨rfl,hs2,hf2⟩)
 go_ret
 exact ⟨rfl,hs2,by (with_reducible repeat first | exact Fr.refl _ _ | refine Fr.alloc ?_ _ | refine Fr.drewN ?_ _ | refine Fr.drew ?_ | (refine Fr.set ?_ ?_ _ _;rotate_left;first | exact .inl rfl | (right;simp;done) | (right;simp;omega) | (right;omega)) | refine Fr.step ?_ (by assumption) | refine Fr.stepB ?_ (by assumption))⟩
end Go.Proofs.YtkhbbapocamlmaaDoor
namespace Go.Proofs.YtkhbbapocamlmaaDoor
open Go Go.RowKit
def Res.st : Res → RS | .ok _ ts => .ok ts | .okL _ ts => .ok ts | .bad c a => .bad c a
def GoodEx (lo : Nat) (W : World) (r : Res) (k op n : Int) (nm : ByteArray) (p : Option Addr) (l c : Nat) (a : Int) : Prop :=
 ∀ x ts',r = .ok x ts' → k = x.k ∧ op = x.op ∧ n = x.n ∧ nm = bstr x.nm ∧ l = x.ks.length ∧ a = x.a ∧ IsEx lo W x (.slice p l c)
theorem GoodEx.bad {lo : Nat} {W : World} {e a0 : Int} {b : Nat} {k op n : Int} {nm : ByteArray} {p : Option Addr} {l c : Nat} : GoodEx lo W (.bad e b) k op n nm p l c a0:=fun x ts' h => by cases h
theorem GoodEx.kept {lo : Nat} {W X : World} {r : Res} {k op n : Int} {nm : ByteArray} {p : Option Addr} {l c : Nat} {a : Int} (h : GoodEx lo W r k op n nm p l c a) (hk : ∀ g,lo ≤ g → g < W.heap.size → X.heap[g]? = W.heap[g]?) : GoodEx lo X r k op n nm p l c a :=
 fun x ts' e => by
  obtain ⟨h1,h2,h3,h4,h5,h6,h7⟩:=h x ts' e
  exact ⟨h1,h2,h3,h4,h5,h6,h7.kept hk⟩
theorem GoodEx.stay {lo : Nat} {W X : World} {r : Res} {k op n : Int} {nm : ByteArray} {p : Option Addr} {l c : Nat} {a : Int} (h : GoodEx lo W r k op n nm p l c a) (hf : Below W.heap.size W X) : GoodEx lo X r k op n nm p l c a:=h.kept fun g _ hl => hf.block g hl
theorem GoodEx.fr {lo rb : Nat} {W X : World} {r : Res} {k op n : Int} {nm : ByteArray} {p : Option Addr} {l c : Nat} {a : Int} (h : GoodEx lo W r k op n nm p l c a) (hf : Fr (some rb) W X) (hr : rb < lo) : GoodEx lo X r k op n nm p l c a :=
 h.kept fun g hg hl => hf.block hl (by simp;omega)
theorem GoodEx.low {lo lo' : Nat} {W : World} {r : Res} {k op n : Int} {nm : ByteArray} {p : Option Addr} {l c : Nat} {a : Int} (h : GoodEx lo W r k op n nm p l c a) (hl : lo' ≤ lo) : GoodEx lo' W r k op n nm p l c a :=
 fun x ts' e => by
  obtain ⟨h1,h2,h3,h4,h5,h6,h7⟩:=h x ts' e
  exact ⟨h1,h2,h3,h4,h5,h6,h7.low hl⟩
def SndR (rb g : Nat) (ws : List Wd) (f : Nat) (args : Array Value) (o : Nat) (ts : List Wd) (r : Res) : Prop :=
 ∀ (W : World) (cap : Nat),EnvR rb g ws W → StR W rb g cap ws o (.ok ts) → Calls Tryd.prog f args W fun e w' => Fr (some rb) W w' ∧ StR w' rb g cap ws o r.st ∧
  ∃ k op n nm p l c a,e = .returned (.agg #[.int .i64 k,.int .i64 op,.int .i64 n,.string nm,.slice p l c,.int .i64 a]) ∧ GoodEx W.heap.size w' r k op n nm p l c a
theorem SndR.use {rb g : Nat} {ws : List Wd} {f : Nat} {args : Array Value} {o : Nat} {ts : List Wd} {r : Res} (h : SndR rb g ws f args o ts r) (W : World) (cap : Nat) (E : EnvR rb g ws W) (S : StR W rb g cap ws o (.ok ts)) :
 Calls Tryd.prog f args W fun e w' => Fr (some rb) W w' ∧ StR w' rb g cap ws o r.st ∧
  ∃ k op n nm p l c a,e = .returned (.agg #[.int .i64 k,.int .i64 op,.int .i64 n,.string nm,.slice p l c,.int .i64 a]) ∧ GoodEx W.heap.size w' r k op n nm p l c a:=h W cap E S
def SndRL (rb g : Nat) (ws : List Wd) (f : Nat) (args : Array Value) (o : Nat) (ts : List Wd) (r : Res) : Prop :=
 ∀ (W : World) (cap : Nat),EnvR rb g ws W → StR W rb g cap ws o (.ok ts) → Calls Tryd.prog f args W fun e w' => Fr (some rb) W w' ∧ StR w' rb g cap ws o r.st ∧
  ∃ p l c,e = .returned (.slice p l c) ∧ ∀ xs ts',r = .okL xs ts' → l = xs.length ∧ IsEx W.heap.size w' (.mk 0 0 0 [] xs 0) (.slice p l c)
theorem SndRL.use {rb g : Nat} {ws : List Wd} {f : Nat} {args : Array Value} {o : Nat} {ts : List Wd} {r : Res} (h : SndRL rb g ws f args o ts r) (W : World) (cap : Nat) (E : EnvR rb g ws W) (S : StR W rb g cap ws o (.ok ts)) :
 Calls Tryd.prog f args W fun e w' => Fr (some rb) W w' ∧ StR w' rb g cap ws o r.st ∧
  ∃ p l c,e = .returned (.slice p l c) ∧ ∀ xs ts',r = .okL xs ts' → l = xs.length ∧ IsEx W.heap.size w' (.mk 0 0 0 [] xs 0) (.slice p l c):=h W cap E S
def GoalR (rb g : Nat) (ws : List Wd) : Job → Nat → List Wd → Res → Prop
 | .thing => SndR rb g ws 88 #[.pointer (some ⟨rb,0,none⟩)]
 | .nam => SndR rb g ws 99 #[.pointer (some ⟨rb,0,none⟩)]
 | .expr r => SndR rb g ws 78 #[.pointer (some ⟨rb,0,none⟩),.int .i64 r]
 | _ => fun _ _ _ => True
def BelowR (rb g : Nat) (ws : List Wd) (N : Nat) : Prop :=
 ∀ j o ts r,P o j ts r → ts <:+ ws → Fin ts → j.may ts → o ≤ 32 → 4 * ts.length + j.wt < N → GoalR rb g ws j o ts r
theorem Blk.grown {n : Nat} {X Y : World} {v0 v1 v2 v3 v4 v5 : Value} (h : Blk X n v0 v1 v2 v3 v4 v5) (hg : X.grownBy Y none) : Blk Y n v0 v1 v2 v3 v4 v5:=(hg.block n (Array.getElem?_eq_some_iff.1 h).1 (by simp)).trans h
theorem StR.grown {W X : World} {rb g cap : Nat} {ws : List Wd} {o : Int} {σ : RS} (S : StR W rb g cap ws o σ) (hg : W.grownBy X none) : StR X rb g cap ws o σ:=S.stay (Fr.below hg)
theorem EnvR.grown {W X : World} {rb g : Nat} {ws : List Wd} (E : EnvR rb g ws W) (hg : W.grownBy X none) : EnvR rb g ws X:=E.stay (Fr.below hg)
theorem results_ex {n : Nat} {X : World} {v0 v1 v2 v3 v4 v5 : Value} {fn : Func} {p : Tmp} (hfn : fn.results = #[.cell p 71]) (tmps : Array Value) (hp : tmps.getD p undef = .pointer (some ⟨n,0,none⟩)) (h : Blk X n v0 v1 v2 v3 v4 v5) :
 (results fn tmps).run Tryd.prog X = .ok (.agg #[v0,v1,v2,v3,v4,v5]) X:=by
 have hp' : tmps[p]?.getD undef = .pointer (some ⟨n,0,none⟩):=by simpa using hp
 simp [results,hfn,hp',asAddr,run_loadVar_row X n 71 71 _ (0,0) _ h Tryd.underlying71 rfl (by kernel_rfl)]
theorem isS_no {x : Wd} {tt : List Wd} (hk : KOk x) {c : UInt8} (r : List UInt8) (hc : isLetter c = false) (h : ¬ Sg x (c :: r)) : (RS.ok (x :: tt)).is (c :: r) = false:=by
 have:=mt (hk.sgn (r:=r) hc).1 h
 simp only [RS.is]
 by_cases h1 : x.k = 2 ∨ x.k = 0
 · have h2 : ¬ x.t = c :: r:=fun e => this ⟨h1,e⟩
   simp [h2]
 · simp at h1
   simp [h1]
theorem isS_yes {x : Wd} {tt : List Wd} {t : List UInt8} (h : Sg x t) : (RS.ok (x :: tt)).is t = true:=by
 simp [RS.is,h.1,h.2]
theorem rnam_var (rb g : Nat) (ws : List Wd) (o : Nat) (x y : Wd) (tt : List Wd) (hx : x.k = 0) (h1 : ¬ Sg y [91] ∧ ¬ Sg y [40]) : SndR rb g ws 99 #[.pointer (some ⟨rb,0,none⟩)] o (x :: y :: tt) (.ok (.mk 2 0 0 x.t [] x.a) (y :: tt)):=by
 intro W cap E0 S0
 have hrl:=S0.lt
 have hgl:=E0.wc.lt
 obtain ⟨i,a,R0,h5,h6,h7,hxm⟩:=S0.ok_cells E0
 have hky : KOk y:=E0.kok y (h6.subset (by simp))
 have hFy:=S0.fin.cons (by rw [hx];decide)
 have b1 : Hid ((RS.ok (y :: tt)).is (⟨#[91]⟩ : ByteArray).data.toList = false):=hid (isS_no hky [] (by decide) h1.1)
 have b2 : Hid ((RS.ok (y :: tt)).is (⟨#[40]⟩ : ByteArray).data.toList = false):=hid (isS_no hky [] (by decide) h1.2)
 obtain ⟨⟨r0,r1,r2,r3,r4⟩,⟨c0,c1,c2,c3⟩,_,_,hi1,hi2,_⟩:=R0.facts
 have hx3 : x.k ≠ 3:=by (rw [hx];decide)
 have S:=hid S0
 have E:=hid E0
 have R:=hid R0
 clear R0 E0 S0 hky h1 hxm h6
 go_enter Tryd.func99,Tryd.ntmps99
 go_upto_region 1 with (fail)
 go_wp2
 go_region
 go_upto_region 3 with (fail)
 refine name_world ?_
 intro W1 hW1
 have hB1 : Below W.heap.size W W1:=by (rw [hW1];(refine Fr.below ?_;(with_reducible repeat first | exact Fr.refl _ _ | refine Fr.alloc ?_ _ | refine Fr.drewN ?_ _ | refine Fr.drew ?_ | (refine Fr.set ?_ ?_ _ _;rotate_left;first | exact .inl rfl | (right;simp;done) | (right;simp;omega) | (right;omega)) | refine Fr.step ?_ (by assumption) | refine Fr.stepB ?_ (by assumption))))
 have hz1 : W1.heap.size = W.heap.size + 3:=by (rw [hW1];simp)
 have BV1 : Blk W1 W.heap.size (.int .i64 0) (.int .i64 0) (.int .i64 0) (.string ⟨#[]⟩) (.slice none 0 0) (.int .i64 0):=by (rw [hW1];exact ((((Blk.new rfl _ _ _ _ _ _).alloc _).alloc _).drew))
 have BE1 : Blk W1 (W.heap.size + 1 + 1) (.int .i64 2) (.int .i64 0) (.int .i64 0) (.string (bstr x.t)) (.slice none 0 0) (.int .i64 x.a):=by (rw [hW1];exact ((Blk.new (by simp) _ _ _ _ _ _).drew))
 clear hW1 r0 r1 r2 r3 r4 c0 c1 c2 c3
 have hR1:=R.out.kept hB1
 obtain ⟨⟨_,r1,_,_,_⟩,_,hrl1,_,_,_,hfz⟩:=hR1.facts
 have hf1:=hfz 1
 have hne0 : rb ≠ W.heap.size:=by omega
 have hne2 : rb ≠ W.heap.size + 1 + 1:=by omega
 have SA:=hid (st_adv (S.out.stay hB1) hR1 hx3 h5)
 have EA:=hid ((E.out.stay hB1).kept ((Fr.refl (some rb) W1).set (.inl rfl) 1 (.int .i64 ((i : Int) + 1))))
 have hfA : Fr (some rb) W (W1.setCell ⟨rb,1,none⟩ (.int .i64 ((i : Int) + 1))):=((Fr.of hB1).set (.inl rfl) 1 _)
 have BVA : Blk (W1.setCell ⟨rb,1,none⟩ (.int .i64 ((i : Int) + 1))) W.heap.size (.int .i64 0) (.int .i64 0) (.int .i64 0) (.string ⟨#[]⟩) (.slice none 0 0) (.int .i64 0):=BV1.setO (Ne.symm hne0) _ _
 have BEA : Blk (W1.setCell ⟨rb,1,none⟩ (.int .i64 ((i : Int) + 1))) (W.heap.size + 1 + 1) (.int .i64 2) (.int .i64 0) (.int .i64 0) (.string (bstr x.t)) (.slice none 0 0) (.int .i64 x.a):=BE1.setO (Ne.symm hne2) _ _
 go_upto_region 4 with (fail)
 refine name_world ?_
 intro WA hWA
 rw [← hWA] at SA EA hfA BVA BEA
 have hzA : W1.heap.size = WA.heap.size:=by (rw [hWA];simp)
 clear hWA BV1 BE1 hR1 r1 hfz hf1 hrl1 S E R hi1 hi2 h5 h7
 go_upto_region 21 with (first
  | (go_at_call 56;(with_reducible refine (st_is SA.out EA.out _ false b1.out).mono ?_);rintro e' w2 ⟨rfl,hb2⟩)
  | (go_at_call 56;(with_reducible refine (st_is (SA.out.stay hb2) (EA.out.stay hb2) _ false b2.out).mono ?_);rintro e' w3 ⟨rfl,hb3⟩))
 have hb23 : Below WA.heap.size WA w3:=hb2.trans (hb3.mono hb2.size)
 have BE3:=BEA.stay hb23
 have BV3:=BVA.stay hb23
 obtain ⟨ble,c0e,c1e,c2e,c3e,c4e,c5e,f0e,f1e,f2e,f3e,f4e,f5e⟩:=(BE3).facts
 obtain ⟨blv,c0v,c1v,c2v,c3v,c4v,c5v,f0v,f1v,f2v,f3v,f4v,f5v⟩:=(BV3).facts
 go_wp2
 refine bodyPost_ret (results_ex rfl _ rfl (BV3.all _ _ _ _ _ _)) rfl ⟨by (with_reducible repeat first | exact Fr.refl _ _ | refine Fr.alloc ?_ _ | refine Fr.drewN ?_ _ | refine Fr.drew ?_ | (refine Fr.set ?_ ?_ _ _;rotate_left;first | exact .inl rfl | (right;simp;done) | (right;simp;omega) | (right;omega)) | refine Fr.step ?_ (by assumption) | refine Fr.stepB ?_ (by assumption)),?_,_,_,_,_,_,_,_,_,rfl,?_⟩
 · show StR _ rb g cap ws o (.ok (y :: tt))
   (with_reducible repeat first | exact SA.out | refine StR.alloc ?_ _ | refine StR.drewN ?_ _ | refine StR.drew ?_ | refine StR.setO ?_ (by first | assumption | omega) _ _ | refine StR.stay ?_ (by assumption))
 · rintro x' ts' e
   cases e
   exact ⟨rfl,rfl,rfl,rfl,rfl,rfl,.leaf⟩
theorem rnam_elim (rb g : Nat) (ws : List Wd) (x y : Wd) (tt : List Wd) (hx : x.k = 0) (h1 : Sg y [91]) : SndR rb g ws 99 #[.pointer (some ⟨rb,0,none⟩)] 32 (x :: y :: tt) (.bad 2 y.a):=by
 intro W cap E0 S0
 have hrl:=S0.lt
 have hgl:=E0.wc.lt
 obtain ⟨i,a,R0,h5,h6,h7,hxm⟩:=S0.ok_cells E0
 have hky : KOk y:=E0.kok y (h6.subset (by simp))
 have hFy:=S0.fin.cons (by rw [hx];decide)
 have b1 : Hid ((RS.ok (y :: tt)).is (⟨#[91]⟩ : ByteArray).data.toList = true):=hid (isS_yes h1)
 obtain ⟨⟨r0,r1,r2,r3,r4⟩,⟨c0,c1,c2,c3⟩,_,_,hi1,hi2,_⟩:=R0.facts
 have hx3 : x.k ≠ 3:=by (rw [hx];decide)
 have S:=hid S0
 have E:=hid E0
 have R:=hid R0
 clear R0 E0 S0 hky h1 hxm h6
 go_enter Tryd.func99,Tryd.ntmps99
 go_upto_region 1 with (fail)
 go_wp2
 go_region
 go_upto_region 3 with (fail)
 refine name_world ?_
 intro W1 hW1
 have hB1 : Below W.heap.size W W1:=by (rw [hW1];(refine Fr.below ?_;(with_reducible repeat first | exact Fr.refl _ _ | refine Fr.alloc ?_ _ | refine Fr.drewN ?_ _ | refine Fr.drew ?_ | (refine Fr.set ?_ ?_ _ _;rotate_left;first | exact .inl rfl | (right;simp;done) | (right;simp;omega) | (right;omega)) | refine Fr.step ?_ (by assumption) | refine Fr.stepB ?_ (by assumption))))
 have hz1 : W1.heap.size = W.heap.size + 3:=by (rw [hW1];simp)
 have BV1 : Blk W1 W.heap.size (.int .i64 0) (.int .i64 0) (.int .i64 0) (.string ⟨#[]⟩) (.slice none 0 0) (.int .i64 0):=by (rw [hW1];exact ((((Blk.new rfl _ _ _ _ _ _).alloc _).alloc _).drew))
 have BE1 : Blk W1 (W.heap.size + 1 + 1) (.int .i64 2) (.int .i64 0) (.int .i64 0) (.string (bstr x.t)) (.slice none 0 0) (.int .i64 x.a):=by (rw [hW1];exact ((Blk.new (by simp) _ _ _ _ _ _).drew))
 clear hW1 r0 r1 r2 r3 r4 c0 c1 c2 c3
 have hR1:=R.out.kept hB1
 obtain ⟨⟨_,r1,_,_,_⟩,_,hrl1,_,_,_,hfz⟩:=hR1.facts
 have hf1:=hfz 1
 have hne0 : rb ≠ W.heap.size:=by omega
 have hne2 : rb ≠ W.heap.size + 1 + 1:=by omega
 have SA:=hid (st_adv (S.out.stay hB1) hR1 hx3 h5)
 have EA:=hid ((E.out.stay hB1).kept ((Fr.refl (some rb) W1).set (.inl rfl) 1 (.int .i64 ((i : Int) + 1))))
 have hfA : Fr (some rb) W (W1.setCell ⟨rb,1,none⟩ (.int .i64 ((i : Int) + 1))):=((Fr.of hB1).set (.inl rfl) 1 _)
 have BVA : Blk (W1.setCell ⟨rb,1,none⟩ (.int .i64 ((i : Int) + 1))) W.heap.size (.int .i64 0) (.int .i64 0) (.int .i64 0) (.string ⟨#[]⟩) (.slice none 0 0) (.int .i64 0):=BV1.setO (Ne.symm hne0) _ _
 have BEA : Blk (W1.setCell ⟨rb,1,none⟩ (.int .i64 ((i : Int) + 1))) (W.heap.size + 1 + 1) (.int .i64 2) (.int .i64 0) (.int .i64 0) (.string (bstr x.t)) (.slice none 0 0) (.int .i64 x.a):=BE1.setO (Ne.symm hne2) _ _
 go_upto_region 4 with (fail)
 refine name_world ?_
 intro WA hWA
 rw [← hWA] at SA EA hfA BVA BEA
 have hzA : W1.heap.size = WA.heap.size:=by (rw [hWA];simp)
 clear hWA BV1 BE1 hR1 r1 hfz hf1 hrl1 S E R hi1 hi2 h5 h7
 go_wp2_with (first
  | (go_at_call 56;(with_reducible refine (st_is SA.out EA.out _ true b1.out).mono ?_);rintro e' w2 ⟨rfl,hb2⟩;have BE2:=BEA.stay hb2;have BV2:=BVA.stay hb2)
  | (go_at_call 98;(with_reducible refine (renter_lim (hid (SA.out.stay hb2)) (hid (EA.out.stay hb2))).mono ?_);rintro e' w3 ⟨rfl,hs3,hf3⟩;have BE3:=BE2.fr hf3 (Ne.symm hne2);have BV3:=BV2.fr hf3 (Ne.symm hne0);(obtain ⟨ble,c0e,c1e,c2e,c3e,c4e,c5e,f0e,f1e,f2e,f3e,f4e,f5e⟩:=(BE3).facts);(obtain ⟨blv,c0v,c1v,c2v,c3v,c4v,c5v,f0v,f1v,f2v,f3v,f4v,f5v⟩:=(BV3).facts)))
 refine bodyPost_ret (results_ex rfl _ rfl (BV3.all _ _ _ _ _ _)) rfl ⟨by (with_reducible repeat first | exact Fr.refl _ _ | refine Fr.alloc ?_ _ | refine Fr.drewN ?_ _ | refine Fr.drew ?_ | (refine Fr.set ?_ ?_ _ _;rotate_left;first | exact .inl rfl | (right;simp;done) | (right;simp;omega) | (right;omega)) | refine Fr.step ?_ (by assumption) | refine Fr.stepB ?_ (by assumption)),?_,_,_,_,_,_,_,_,_,rfl,GoodEx.bad⟩
 have hs3' : StR w3 rb g cap ws 32 (.bad 2 y.a):=hs3
 show StR _ rb g cap ws 32 (.bad 2 y.a)
 (with_reducible repeat first | exact hs3' | refine StR.alloc ?_ _ | refine StR.drewN ?_ _ | refine StR.drew ?_ | refine StR.setO ?_ (by first | assumption | omega) _ _ | refine StR.stay ?_ (by assumption))
theorem RS.need_t {s : RS} {t : List UInt8} (h : s.is t = true) : s.need t = s.adv:=by simp [RS.need,h]
theorem RS.need_f {s : RS} {t : List UInt8} (h : s.is t = false) : s.need t = s.fail 11:=by simp [RS.need,h]
def WthEnd (cl : List UInt8) (f : Ex → Ex) : Res → Res → Prop
 | .ok e (d :: ts'),r => (Sg d cl ∧ r = .ok (f e) ts') ∨ (¬ Sg d cl ∧ r = .bad 11 d.a)
 | .bad c a,r => r = .bad c a
 | _,_ => False
theorem WthEnd.st {ws : List Wd} {cl : UInt8} {f : Ex → Ex} {r2 r : Res} (h : WthEnd [cl] f r2 r) (hc : isLetter cl = false) (hk : ∀ x ∈ ws,KOk x) (hs : ∀ tt,r2.st = .ok tt → tt <:+ ws) : r2.st.need [cl] = r.st:=by
 cases r2 with
 | ok e ts =>
  cases ts with
  | nil => exact h.elim
  | cons d ts =>
   have hd : KOk d:=hk d ((hs _ rfl).subset (by simp))
   rcases h with ⟨h1,rfl⟩ | ⟨h1,rfl⟩
   · exact (RS.need_t (isS_yes h1)).trans rfl
   · exact (RS.need_f (isS_no hd [] hc h1)).trans rfl
 | okL => exact h.elim
 | bad c a =>
  have h' : r = .bad c a:=h
  subst h'
  rfl
theorem WthEnd.inv {cl : List UInt8} {f : Ex → Ex} {r2 r : Res} (h : WthEnd cl f r2 r) {x : Ex} {ts' : List Wd} (hr : r = .ok x ts') : ∃ e d,r2 = .ok e (d :: ts') ∧ x = f e:=by
 cases r2 with
 | ok e ts =>
  cases ts with
  | nil => exact h.elim
  | cons d ts =>
   rcases h with ⟨_,h1⟩ | ⟨_,h1⟩
   · rw [hr] at h1
     cases h1
     exact ⟨e,d,rfl,rfl⟩
   · rw [hr] at h1
     cases h1
 | okL => exact h.elim
 | bad c a =>
  have h' : r = .bad c a:=h
  rw [hr] at h'
  cases h'
def rawL (k op n : Int) (nm : ByteArray) (p : Option Addr) (l c : Nat) (a : Int) : List Value:=[.int .i64 k,.int .i64 op,.int .i64 n,.string nm,.slice p l c,.int .i64 a]
theorem rawL_one (k op n : Int) (nm : ByteArray) (p : Option Addr) (l c : Nat) (a : Int) : ∀ u ∈ rawL k op n nm p l c a,u.oneCell' = true:=by
 intro u hu
 simp [rawL] at hu
 rcases hu with rfl | rfl | rfl | rfl | rfl | rfl <;> rfl
theorem one_row {B : Nat} {W X : World} {r2 : Res} {k op n : Int} {nm : ByteArray} {p : Option Addr} {l c : Nat} {a : Int} {gg cap : Nat} {e : Ex} {ts : List Wd} (h : GoodEx B W r2 k op n nm p l c a) (hr : r2 = .ok e ts)
 (ho : X.ownsRow B 71 6 (.slice (some ⟨gg,0,none⟩) 1 cap) 1 ([] ++ rawL k op n nm p l c a)) (hg : W.grownBy X none) (hh : gg = W.heap.size) (k' o' n' : Int) (nm' : List UInt8) (a' : Nat) : IsEx B X (.mk k' o' n' nm' [e] a') (.slice (some ⟨gg,0,none⟩) 1 cap):=by
 obtain ⟨rfl,rfl,rfl,rfl,rfl,rfl,h7⟩:=h e ts hr
 obtain ⟨l0,hl0⟩:=Grows.nil B W
 have hl0' : l0 = []:=by simpa using hl0.1
 subst hl0'
 have:=GrowsL.more hl0 h7 (fun j hj => by cases hj) hg rfl (.inr hh) ho
 exact Grows.ex ⟨_,this⟩ k' o' n' nm' a'
theorem rnam_elem (rb g : Nat) (ws : List Wd) (o : Nat) (x y : Wd) (tt : List Wd) (r2 r : Res) (ho : o < 32) (hx : x.k = 0) (h1 : Sg y [91]) (H2 : SndR rb g ws 78 #[.pointer (some ⟨rb,0,none⟩),.int .i64 1] (o + 1) tt r2) (hr : WthEnd [93] (fun e => .mk 3 0 0 x.t [e] x.a) r2 r) : SndR rb g ws 99 #[.pointer (some ⟨rb,0,none⟩)] o (x :: y :: tt) r:=by
 intro W cap E0 S0
 have hrl:=S0.lt
 have hgl:=E0.wc.lt
 obtain ⟨i,a,R0,h5,h6,h7,hxm⟩:=S0.ok_cells E0
 have hky : KOk y:=E0.kok y (h6.subset (by simp))
 have hFy:=S0.fin.cons (by rw [hx];decide)
 have b1 : Hid ((RS.ok (y :: tt)).is (⟨#[91]⟩ : ByteArray).data.toList = true):=hid (isS_yes h1)
 have hy3:=hid h1.ne
 obtain ⟨⟨r0,r1,r2,r3,r4⟩,⟨c0,c1,c2,c3⟩,_,_,hi1,hi2,_⟩:=R0.facts
 have hx3 : x.k ≠ 3:=by (rw [hx];decide)
 have S:=hid S0
 have E:=hid E0
 have R:=hid R0
 clear R0 E0 S0 hky h1 hxm h6
 go_enter Tryd.func99,Tryd.ntmps99
 go_upto_region 1 with (fail)
 go_wp2
 go_region
 go_upto_region 3 with (fail)
 refine name_world ?_
 intro W1 hW1
 have hB1 : Below W.heap.size W W1:=by (rw [hW1];(refine Fr.below ?_;(with_reducible repeat first | exact Fr.refl _ _ | refine Fr.alloc ?_ _ | refine Fr.drewN ?_ _ | refine Fr.drew ?_ | (refine Fr.set ?_ ?_ _ _;rotate_left;first | exact .inl rfl | (right;simp;done) | (right;simp;omega) | (right;omega)) | refine Fr.step ?_ (by assumption) | refine Fr.stepB ?_ (by assumption))))
 have hz1 : W1.heap.size = W.heap.size + 3:=by (rw [hW1];simp)
 have BV1 : Blk W1 W.heap.size (.int .i64 0) (.int .i64 0) (.int .i64 0) (.string ⟨#[]⟩) (.slice none 0 0) (.int .i64 0):=by (rw [hW1];exact ((((Blk.new rfl _ _ _ _ _ _).alloc _).alloc _).drew))
 have BE1 : Blk W1 (W.heap.size + 1 + 1) (.int .i64 2) (.int .i64 0) (.int .i64 0) (.string (bstr x.t)) (.slice none 0 0) (.int .i64 x.a):=by (rw [hW1];exact ((Blk.new (by simp) _ _ _ _ _ _).drew))
 clear hW1 r0 r1 r2 r3 r4 c0 c1 c2 c3
 have hR1:=R.out.kept hB1
 obtain ⟨⟨_,r1,_,_,_⟩,_,hrl1,_,_,_,hfz⟩:=hR1.facts
 have hf1:=hfz 1
 have hne0 : rb ≠ W.heap.size:=by omega
 have hne2 : rb ≠ W.heap.size + 1 + 1:=by omega
 have SA:=hid (st_adv (S.out.stay hB1) hR1 hx3 h5)
 have EA:=hid ((E.out.stay hB1).kept ((Fr.refl (some rb) W1).set (.inl rfl) 1 (.int .i64 ((i : Int) + 1))))
 have hfA : Fr (some rb) W (W1.setCell ⟨rb,1,none⟩ (.int .i64 ((i : Int) + 1))):=((Fr.of hB1).set (.inl rfl) 1 _)
 have BVA : Blk (W1.setCell ⟨rb,1,none⟩ (.int .i64 ((i : Int) + 1))) W.heap.size (.int .i64 0) (.int .i64 0) (.int .i64 0) (.string ⟨#[]⟩) (.slice none 0 0) (.int .i64 0):=BV1.setO (Ne.symm hne0) _ _
 have BEA : Blk (W1.setCell ⟨rb,1,none⟩ (.int .i64 ((i : Int) + 1))) (W.heap.size + 1 + 1) (.int .i64 2) (.int .i64 0) (.int .i64 0) (.string (bstr x.t)) (.slice none 0 0) (.int .i64 x.a):=BE1.setO (Ne.symm hne2) _ _
 go_upto_region 4 with (fail)
 refine name_world ?_
 intro WA hWA
 rw [← hWA] at SA EA hfA BVA BEA
 have hzA : W1.heap.size = WA.heap.size:=by (rw [hWA];simp)
 clear hWA BV1 BE1 hR1 r1 hfz hf1 hrl1 S E R hi1 hi2 h5 h7
 have HH2:=hid H2
 clear H2
 obtain ⟨i0,hinf,hzi0,hzi1,hzi2⟩:=info_parts infoEx
 go_upto_region 9 with (first
  | (go_at_call 56;(with_reducible refine (st_is SA.out EA.out _ true b1.out).mono ?_);rintro e' w2 ⟨rfl,hb2⟩;have BE2:=BEA.stay hb2;have BV2:=BVA.stay hb2)
  | (go_at_call 98;(with_reducible refine (renter_ok (SA.out.stay hb2) (EA.out.stay hb2) hy3.out ho).mono ?_);rintro e' w3 ⟨rfl,hs3,hf3⟩;have BE3:=BE2.fr hf3 (Ne.symm hne2);have BV3:=BV2.fr hf3 (Ne.symm hne0);(obtain ⟨ble,c0e,c1e,c2e,c3e,c4e,c5e,f0e,f1e,f2e,f3e,f4e,f5e⟩:=(BE3).facts);(obtain ⟨blv,c0v,c1v,c2v,c3v,c4v,c5v,f0v,f1v,f2v,f3v,f4v,f5v⟩:=(BV3).facts)))
 refine name_world ?_
 intro W4 hW4
 have BE4 : Blk W4 (W.heap.size + 1 + 1) (.int .i64 3) (.int .i64 0) (.int .i64 0) (.string (bstr x.t)) (.slice none 0 0) (.int .i64 x.a):=by (rw [hW4];exact BE3.set0 _)
 have BV4 : Blk W4 W.heap.size (.int .i64 0) (.int .i64 0) (.int .i64 0) (.string ⟨#[]⟩) (.slice none 0 0) (.int .i64 0):=by (rw [hW4];exact BV3.setO (by omega) _ _)
 have S4:=hid (show StR W4 rb g cap ws ((o + 1 : Nat) : Int) (.ok tt) by (rw [hW4];exact hs3.setO hne2 _ _))
 have E4 : Hid (EnvR rb g ws W4):=hid (by (rw [hW4];exact ((EA.out.stay hb2).kept hf3).setO (by omega) _ _))
 have hFW4 : Fr (some rb) W W4:=by (have hz2:=Fr.size hfA;rw [hW4];exact ((hfA.stepB hb2).step hf3).set (.inr (by omega)) _ _)
 have hz4 : W.heap.size + 3 ≤ W4.heap.size:=by (have h1:=hb2.size;have h2:=Fr.size hf3;rw [hW4];simp;omega)
 clear hW4 BE3 BV3 BE2 BV2 BEA BVA SA EA hs3 hf3 hb2 hfA
 obtain ⟨blh,c0h,c1h,c2h,c3h,c4h,c5h,f0h,f1h,f2h,f3h,f4h,f5h⟩:=(BE4).facts
 go_region_law (first
  | (refine step_append_lies _ (by rfl) _ _ _ (by rfl) W4.heap.size 71 i0 _ 6 72 Tryd.underlying44 hinf hzi0 hzi1 hzi2 rfl (by decide) _ 0 [] (by rfl) (World.ownsRow_nil _ _ _ _) ⟨_,0,none⟩ 1 1 (rawL k5 q5 n5 nm5 p5 l5 c5 a5) (by rfl) (by rfl) (World.news_of_block (heap_alloc_new _ _)) (rawL_one _ _ _ _ _ _ _ _) (by decide) (by unfold maxLen;omega) (by omega) (by simp;omega) _ rfl ?_;intro gg cap6 w6 hown6 hgrow6 hor6 hlt6;have hgr6 : World.grownBy _ w6 none:=hgrow6;have BE6:=(BE5.alloc (.cells #[.int .i64 k5,.int .i64 q5,.int .i64 n5,.string nm5,.slice p5 l5 c5,.int .i64 a5] 71)).grown hgr6;(obtain ⟨blj,c0j,c1j,c2j,c3j,c4j,c5j,f0j,f1j,f2j,f3j,f4j,f5j⟩:=(BE6).facts))
  | (go_simp;go_at_call 78;(with_reducible refine (HH2.out.use _ cap (E4.out.stay (by (refine Fr.below ?_;(with_reducible repeat first | exact Fr.refl _ _ | refine Fr.alloc ?_ _ | refine Fr.drewN ?_ _ | refine Fr.drew ?_ | (refine Fr.set ?_ ?_ _ _;rotate_left;first | exact .inl rfl | (right;simp;done) | (right;simp;omega) | (right;omega)) | refine Fr.step ?_ (by assumption) | refine Fr.stepB ?_ (by assumption))))) (by (with_reducible repeat first | exact S4.out | refine StR.alloc ?_ _ | refine StR.drewN ?_ _ | refine StR.drew ?_ | refine StR.setO ?_ (by first | assumption | omega) _ _ | refine StR.stay ?_ (by assumption)))).mono ?_);rintro e5 w5 ⟨hf5,hs5,k5,q5,n5,nm5,p5,l5,c5,a5,rfl,hg5⟩;have hz5a:=Fr.size hf5;(try simp only [World.size_drew] at hz5a);have BE5:=BE4.drew.fr hf5 (Ne.symm hne2);(obtain ⟨bli,c0i,c1i,c2i,c3i,c4i,c5i,f0i,f1i,f2i,f3i,f4i,f5i⟩:=(BE5).facts)))
 all_goals go_upto_region 10 with (fail)
 all_goals refine name_world ?_
 all_goals
  intro W7 hW7
  have hgg : gg = (w5.alloc (.cells #[.int .i64 k5,.int .i64 q5,.int .i64 n5,.string nm5,.slice p5 l5 c5,.int .i64 a5] 71)).heap.size:=by (rcases hor6 with h | h;(cases h);exact h)
  have hz5:=Fr.size hf5
  simp at hz5 hgg
  have hge : gg ≠ W.heap.size + 1 + 1:=by omega
  have BE7 : Blk W7 (W.heap.size + 1 + 1) (.int .i64 3) (.int .i64 0) (.int .i64 0) (.string (bstr x.t)) (.slice (some ⟨gg,0,none⟩) 1 cap6) (.int .i64 x.a):=by (rw [hW7];exact BE6.set4 _)
  have BV7 : Blk W7 W.heap.size (.int .i64 0) (.int .i64 0) (.int .i64 0) (.string ⟨#[]⟩) (.slice none 0 0) (.int .i64 0):=by (rw [hW7];exact (((BV4.drew.fr hf5 (Ne.symm hne0)).alloc _).grown hgr6).setO (by omega) _ _)
  obtain ⟨O,hO⟩ : ∃ O : Int,O = ((o + 1 : Nat) : Int):=⟨_,rfl⟩
  rw [← hO] at hs5
  have S7 : Hid (StR W7 rb g cap ws O r2.st):=hid (by (rw [hW7];exact ((hs5.alloc _).grown hgr6).setO hne2 _ _))
  have E7 : Hid (EnvR rb g ws W7):=hid (by (rw [hW7];exact ((((E4.out.stay (Below.refl _ _).drew).kept hf5).stay ((Below.refl _ _).alloc (Nat.le_refl _) _)).grown hgr6).setO (by omega) _ _))
  have hFW6 : Fr (some rb) W w6:=Fr.stepOwn (v:=.slice none 0 0) (((hFW4.drew).step hf5).alloc _) hgrow6 (fun j e => by cases e)
  have hFW7 : Fr (some rb) W W7:=by (rw [hW7];exact hFW6.set (.inr (by omega)) _ _)
  change GoodEx W4.heap.size w5 r2 k5 q5 n5 nm5 p5 l5 c5 a5 at hg5
  have X7 : Hid (∀ e ts,r2 = .ok e ts → IsEx W4.heap.size W7 (.mk 3 0 0 x.t [e] x.a) (.slice (some ⟨gg,0,none⟩) 1 cap6)):=hid (by
   intro e ts he
   rw [hW7]
   exact (one_row (hg5.stay ((Below.refl _ _).alloc (Nat.le_refl _) _)) he hown6 hgr6 (by simp;omega) 3 0 0 x.t x.a).set (by omega) _ _)
  have HO:=hid hO
  have hz7:=Fr.size hFW7
  clear hO hW7 hs5 hf5 hown6 hgrow6 hgr6 hor6 BE6 BE5 BE4 BV4 S4 E4 hg5 hgg hz5
  go_wp2_with (go_at_call 58;(with_reducible refine (st_need S7.out E7.out _).mono ?_);rintro e8 w8 ⟨rfl,hs8,hf8⟩;obtain ⟨i8,c8,a8,hr8,_,_⟩:=hs8.rd;obtain ⟨q0,q1,q2,q3,q4⟩:=hr8.cells;have hl8:=hr8.lt;have hfz8:=hr8.frozen 2;have BE8:=BE7.fr hf8 (Ne.symm hne2);have BV8:=BV7.fr hf8 (Ne.symm hne0);clear hr8;(obtain ⟨blk,c0k,c1k,c2k,c3k,c4k,c5k,f0k,f1k,f2k,f3k,f4k,f5k⟩:=(BE8).facts);(obtain ⟨bll,c0l,c1l,c2l,c3l,c4l,c5l,f0l,f1l,f2l,f3l,f4l,f5l⟩:=(BV8).facts))
  refine bodyPost_ret (results_ex rfl _ rfl ((BV8.setO (Ne.symm hne0) _ _).all _ _ _ _ _ _)) rfl ⟨by (with_reducible repeat first | exact Fr.refl _ _ | refine Fr.alloc ?_ _ | refine Fr.drewN ?_ _ | refine Fr.drew ?_ | (refine Fr.set ?_ ?_ _ _;rotate_left;first | exact .inl rfl | (right;simp;done) | (right;simp;omega) | (right;omega)) | refine Fr.step ?_ (by assumption) | refine Fr.stepB ?_ (by assumption)),?_,_,_,_,_,_,_,_,_,rfl,?_⟩
  · have hst:=hr.st (by decide) E7.out.kok (fun tt' h => (show StR W7 rb g cap ws O (.ok tt') from h ▸ S7.out).1)
    have hs9 : StR (w8.setCell ⟨rb,2,none⟩ (.int .i64 (wrap64 (O - 1)))) rb g cap ws o r.st:=by (rw [← hst,HO.out];exact st_dec (HO.out ▸ hs8) (by omega))
    (with_reducible repeat first | exact hs9 | refine StR.alloc ?_ _ | refine StR.drewN ?_ _ | refine StR.drew ?_ | refine StR.setO ?_ (by first | assumption | omega) _ _ | refine StR.stay ?_ (by assumption))
  · intro x' ts' e
    obtain ⟨e0,d,h8,rfl⟩:=hr.inv e
    have h9:=((X7.out e0 _ h8).fr hf8 (by omega)).set (show rb < W4.heap.size by omega) 2 (.int .i64 (wrap64 (O - 1)))
    refine ⟨rfl,rfl,rfl,rfl,rfl,rfl,IsEx.low (lo:=W4.heap.size) ?_ (by omega)⟩
    exact (((((h9.set (by omega) _ _).set (by omega) _ _).set (by omega) _ _).set (by omega) _ _).set (by omega) _ _).set (by omega) _ _
def LstNext (o : Nat) (acc : List Ex) (rl : Res) : Res → Prop
 | .ok e (f :: tt) => (Sg f [44] → P o (.list (acc ++ [e])) tt rl) ∧ (¬ Sg f [44] → rl = .okL (acc ++ [e]) (f :: tt))
 | .bad c a => rl = .bad c a
 | _ => False
theorem lst_step {o : Nat} {acc : List Ex} {tt : List Wd} {rl : Res} (h : P o (.list acc) tt rl) : ∃ r1,P o (.expr 1) tt r1 ∧ LstNext o acc rl r1:=by
 cases h with
 | lstMore h1 h2 h3 => exact ⟨_,h1,fun _ => h3,fun h => absurd h2 h⟩
 | lstEnd h1 h2 => exact ⟨_,h1,fun h => absurd h h2,fun _ => rfl⟩
 | lstBad h1 => exact ⟨_,h1,rfl⟩
theorem res_len {o : Nat} {ts tt : List Wd} {r : Res} (hP : P o (.expr 1) ts r) (hF : Fin ts) (h : r.st = .ok tt) : tt.length ≤ ts.length:=by
 have hpo:=hP.post' (by simp [Job.may]) hF
 cases r with
 | ok e ts' =>
  cases h
  simp only [Post,Job.lst,Job.min] at hpo
  omega
 | okL es ts' =>
  cases h
  simp only [Post,Job.lst,Job.min] at hpo
  omega
 | bad => cases h
def LRel (lo : Nat) (ws : List Wd) (o : Nat) (rl : Res) (v : Value) (W : World) (σ : RS) : Prop :=
 (∃ acc l f tt,σ = .ok (f :: tt) ∧ GrowsL lo W acc v l ∧ acc.length + (f :: tt).length ≤ ws.length ∧ (Sg f [44] → P o (.list acc) tt rl) ∧ (¬ Sg f [44] → rl = .okL acc (f :: tt))) ∨
 (∃ c a,σ = .bad c a ∧ rl = .bad c a ∧ ∃ p l k,v = .slice p l k)
theorem LRel.fr {lo rb : Nat} {ws : List Wd} {o : Nat} {rl : Res} {v : Value} {W X : World} {σ : RS} (h : LRel lo ws o rl v W σ) (hf : Fr (some rb) W X) (hr : rb < lo) : LRel lo ws o rl v X σ:=by
 rcases h with ⟨acc,l,f,tt,h1,h2,h3⟩ | h
 · exact .inl ⟨acc,l,f,tt,h1,h2.fr hf hr,h3⟩
 · exact .inr h
theorem LRel.next {lo B5 : Nat} {ws : List Wd} {o : Nat} {rl r1 : Res} {v : Value} {w5 w6 : World} {acc : List Ex} {l : List (Ex × Value)} {k q n : Int} {nm : ByteArray} {p : Option Addr} {m c : Nat} {a : Int} {g cap : Nat} {tt : List Wd}
 (hG : GrowsL lo w5 acc v l) (hg : GoodEx B5 w5 r1 k q n nm p m c a) (hlo : lo ≤ B5) (hv : ∀ j,v.ownBlock = some j → j < B5) (hP : P o (.expr 1) tt r1) (hF : Fin tt) (hlen : acc.length + tt.length ≤ ws.length) (hN : LstNext o acc rl r1)
 (hown : w6.ownsRow lo 71 6 (.slice (some ⟨g,0,none⟩) (acc.length + 1) cap) (acc.length + 1) (exRow l ++ rawL k q n nm p m c a)) (hgrow : (w5.alloc (.cells #[.int .i64 k,.int .i64 q,.int .i64 n,.string nm,.slice p m c,.int .i64 a] 71)).grownBy w6 v.ownBlock)
 (hor : v.ownBlock = some g ∨ g = (w5.alloc (.cells #[.int .i64 k,.int .i64 q,.int .i64 n,.string nm,.slice p m c,.int .i64 a] 71)).heap.size) : LRel lo ws o rl (.slice (some ⟨g,0,none⟩) (acc.length + 1) cap) w6 r1.st:=by
 cases r1 with
 | ok e ts =>
  cases ts with
  | nil => exact hN.elim
  | cons f tt' =>
   obtain ⟨rfl,rfl,rfl,rfl,rfl,rfl,h7⟩:=hg e _ rfl
   have hpo:=hP.post' (by simp [Job.may]) hF
   simp only [Post,Job.lst,Job.min] at hpo
   have hb : Below w5.heap.size w5 (w5.alloc (.cells #[.int .i64 e.k,.int .i64 e.op,.int .i64 e.n,.string (bstr e.nm),.slice p e.ks.length c,.int .i64 e.a] 71)):=(Below.refl _ _).alloc (Nat.le_refl _) _
   refine .inl ⟨acc ++ [e],l ++ [(e,.slice p e.ks.length c)],f,tt',rfl,?_,?_,hN⟩
   · refine GrowsL.more (x:=e) (u:=.slice p e.ks.length c) (l:=l) (H:=_) ?_ ((h7.low hlo).stay hb) ?_ hgrow rfl hor hown
     · obtain ⟨h1,h2,h3,h4⟩:=hG
       exact ⟨h1,own_below h2 hb,fun q hq => (h3 q hq).kept fun g hg hl => ⟨hb.block g hl,hg⟩,h4⟩
     · intro j hj
       have hjl:=hv j hj
       exact (h7.stay hb).toP fun g hg _ => ⟨rfl,by omega,by omega⟩
   · have:=hpo.2.2
     simp only [List.length_append,List.length_cons,List.length_nil] at this ⊢
     omega
 | okL => exact hN.elim
 | bad c' a' => exact .inr ⟨c',a',rfl,hN,_,_,_,rfl⟩
theorem GrowsL.form {B : Nat} {W : World} {es : List Ex} {v : Value} {l : List (Ex × Value)} (h : GrowsL B W es v l) : ∃ p c,v = .slice p es.length c:=by
 rcases h.2.1.2 with ⟨h1,h2⟩ | ⟨g,cap,cur,h1,_⟩
 · exact ⟨none,0,by rw [h1,h2]⟩
 · exact ⟨_,_,h1⟩
theorem rlist_none (rb g : Nat) (ws : List Wd) (o : Nat) (d : Wd) (tt : List Wd) (hd : Sg d [41]) : SndRL rb g ws 107 #[.pointer (some ⟨rb,0,none⟩)] o (d :: tt) (.okL [] (d :: tt)):=by
 intro W cap E0 S0
 have b1 : Hid ((RS.ok (d :: tt)).is (⟨#[41]⟩ : ByteArray).data.toList = true):=hid (isS_yes hd)
 have S:=hid S0
 have E:=hid E0
 have hrl:=S0.lt
 clear S0 E0 hd
 go_enter Tryd.func107,Tryd.ntmps107
 go_wp2_with (go_at_call 56;(with_reducible refine (st_is S.out E.out _ true b1.out).mono ?_);rintro e' w2 ⟨rfl,hb2⟩)
 go_ret
 refine ⟨by (with_reducible repeat first | exact Fr.refl _ _ | refine Fr.alloc ?_ _ | refine Fr.drewN ?_ _ | refine Fr.drew ?_ | (refine Fr.set ?_ ?_ _ _;rotate_left;first | exact .inl rfl | (right;simp;done) | (right;simp;omega) | (right;omega)) | refine Fr.step ?_ (by assumption) | refine Fr.stepB ?_ (by assumption)),?_,_,_,_,rfl,?_⟩
 · show StR _ rb g cap ws o (.ok (d :: tt))
   (with_reducible repeat first | exact S.out | refine StR.alloc ?_ _ | refine StR.drewN ?_ _ | refine StR.drew ?_ | refine StR.setO ?_ (by first | assumption | omega) _ _ | refine StR.stay ?_ (by assumption))
 · intro xs ts' e
   cases e
   exact ⟨rfl,.leaf⟩
theorem rlist_some (rb g : Nat) (ws : List Wd) (o : Nat) (d : Wd) (tt0 : List Wd) (rl : Res) (hd : ¬ Sg d [41]) (hP0 : P o (.list []) (d :: tt0) rl)
 (IH : ∀ tt r,P o (.expr 1) tt r → tt <:+ ws → Fin tt → tt.length ≤ (d :: tt0).length → SndR rb g ws 78 #[.pointer (some ⟨rb,0,none⟩),.int .i64 1] o tt r) : SndRL rb g ws 107 #[.pointer (some ⟨rb,0,none⟩)] o (d :: tt0) rl:=by
 intro W cap E0 S0
 have hdk : KOk d:=E0.kok d (S0.1.subset (by simp))
 have b1 : Hid ((RS.ok (d :: tt0)).is (⟨#[41]⟩ : ByteArray).data.toList = false):=hid (isS_no hdk [] (by decide) hd)
 obtain ⟨r1,hP1,hN1⟩:=lst_step hP0
 have H1:=hid (IH _ _ hP1 S0.1 S0.2.1 (Nat.le_refl _))
 have HP1:=hid (And.intro hP1 (And.intro hN1 (And.intro S0.2.1 S0.1.length_le)))
 have S:=hid S0
 have E:=hid E0
 have HI:=hid IH
 have hrl:=S0.lt
 have hgl:=E0.wc.lt
 have hfew:=E0.few
 obtain ⟨i0,hinf,hzi0,hzi1,hzi2⟩:=info_parts infoEx
 clear S0 E0 hd hdk hP1 hN1 hP0 IH
 go_enter Tryd.func107,Tryd.ntmps107
 go_upto_region 4 with (go_at_call 56;(with_reducible refine (st_is S.out E.out _ false b1.out).mono ?_);rintro e' w2 ⟨rfl,hb2⟩;have hz2:=hb2.size)
 go_wp2_with (first
  | (go_at_call 78;(with_reducible refine (H1.out.use _ cap (E.out.stay hb2) (S.out.stay hb2)).mono ?_);rintro e5 w5 ⟨hf5,hs5,k5,q5,n5,nm5,p5,l5,c5,a5,rfl,hg5⟩;have hz5:=Fr.size hf5)
  | (at_builtin;refine wpList_append_lies _ rfl (.tmp 6) (.tmp 9) 44 rfl w2.heap.size 71 i0 _ 6 72 Tryd.underlying44 hinf hzi0 hzi1 hzi2 rfl (by decide) _ 0 [] rfl (World.ownsRow_nil _ _ _ _) ⟨_,0,none⟩ 1 1 (rawL k5 q5 n5 nm5 p5 l5 c5 a5) rfl rfl (World.news_of_block (heap_alloc_new _ _)) (rawL_one _ _ _ _ _ _ _ _) (by decide) (by unfold maxLen;omega) (by omega) (by simp;omega) _ rfl ?_;intro g4 cap4 w4 hown4 hgrow4 hor4 hlt4))
 have hR4 : LRel w2.heap.size ws o rl (.slice (some ⟨g4,0,none⟩) 1 cap4) w4 r1.st:=by
  obtain ⟨l0,hl0⟩:=Grows.nil w2.heap.size w5
  have hl0' : l0 = []:=by simpa using hl0.1
  subst hl0'
  exact LRel.next hl0 hg5 (Nat.le_refl _) (fun j hj => by cases hj) HP1.out.1 HP1.out.2.2.1 (by simpa using HP1.out.2.2.2) HP1.out.2.1 hown4 hgrow4 hor4
 have hF4 : Fr (some rb) w2 w4:=Fr.stepOwn (v:=.slice none 0 0) (hf5.alloc _) hgrow4 (fun j e => by cases e)
 have hS4 : StR w4 rb g cap ws o r1.st:=(hs5.alloc _).grown hgrow4
 have HL1 : Hid (∀ tt,r1.st = .ok tt → tt.length ≤ (d :: tt0).length):=hid (fun tt h => res_len HP1.out.1 HP1.out.2.2.1 h)
 have HR4:=hid hR4
 have HS4:=hid hS4
 clear hR4 hS4 hown4 hgrow4 hor4 hs5 hg5 hf5 H1 HP1
 go_loopw [3] (fun v0 wr => ∃ v σ,v = v0 ∧ LRel w2.heap.size ws o rl v wr σ ∧ StR wr rb g cap ws o σ ∧ Fr (some rb) w2 wr ∧ ∀ tt,σ = .ok tt → tt.length ≤ (d :: tt0).length) (fun _ wr => msR wr rb ws.length)
 case atStart => exact ⟨_,r1.st,rfl,HR4.out,HS4.out,hF4,HL1.out⟩
 case round =>
  obtain ⟨v,σ,rfl,hL,hS,hF,hsh⟩:=hrel
  have E1:=hid ((E.out.stay hb2).kept hF)
  have S1:=hid hS
  have hz1:=Fr.size hF
  have hrw : rb < w2.heap.size:=by omega
  rcases hL with ⟨acc,l,f,tt,rfl,hG,hlen,hc1,hc2⟩ | ⟨c,a,rfl,rfl,p,q,k,rfl⟩
  · by_cases hcm : Sg f [44]
    · have hf3 : f.k ≠ 3:=hcm.ne
      have b2 : Hid ((RS.ok (f :: tt)).is (⟨#[44]⟩ : ByteArray).data.toList = true):=hid (isS_yes hcm)
      obtain ⟨r2,hP2,hN2⟩:=lst_step (hc1 hcm)
      have hst : tt <:+ ws:=(suf_at hS.1).2.2
      have hFt : Fin tt:=hS.2.1.cons hf3
      have hsl : tt.length ≤ (d :: tt0).length:=by (have:=hsh _ rfl;simp only [List.length_cons] at this ⊢;omega)
      have H2:=hid (HI.out tt r2 hP2 hst hFt hsl)
      have HP2:=hid (And.intro hP2 (And.intro hN2 hFt))
      have HG:=hid hG
      have HLT : Hid (∀ j,v.ownBlock = some j → w2.heap.size ≤ j ∧ j < wr.heap.size):=hid hG.2.1.lt
      have hlen2 : acc.length + tt.length + 1 ≤ ws.length:=by (simp only [List.length_cons] at hlen;omega)
      have HSL:=hid hsl
      clear hS hG hc1 hc2 hcm hsh hP2 hN2 hlen hst hFt hsl
      go_wp2_with (first
       | (go_at_call 56;(with_reducible refine (st_is S1.out E1.out _ true b2.out).mono ?_);rintro e' w7 ⟨rfl,hb7⟩;have hz7:=hb7.size;obtain ⟨i7,a7,R7,h57,h67,h77,_⟩:=(S1.out.stay hb7).ok_cells (E1.out.stay hb7);obtain ⟨q0,q1,q2,q3,q4⟩:=R7.rd.cells;have hl7:=R7.rd.lt;have hfz7:=R7.rd.frozen 1;have S8:=hid (st_adv (S1.out.stay hb7) R7 hf3 h57);have E8:=hid ((E1.out.stay hb7).kept ((Fr.refl (some rb) w7).set (.inl rfl) 1 (.int .i64 ((i7 : Int) + 1))));clear h57 h67 R7)
       | (go_at_call 78;(with_reducible refine (H2.out.use _ cap E8.out S8.out).mono ?_);rintro e5 w5 ⟨hf5,hs5,k5,q5,n5,nm5,p5,l5,c5,a5,rfl,hg5⟩;have hz5:=Fr.size hf5;(try simp only [World.size_setCell] at hz5);have hG5:=((HG.out.fr (rb:=rb) (.of hb7) hrw).fr ((Fr.refl (some rb) w7).set (.inl rfl) 1 (.int .i64 ((i7 : Int) + 1))) hrw).fr hf5 hrw)
       | (at_builtin;refine wpList_append_lies _ rfl (.tmp 20) (.tmp 23) 44 rfl w2.heap.size 71 i0 _ 6 72 Tryd.underlying44 hinf hzi0 hzi1 hzi2 rfl (by decide) v acc.length (exRow l) rfl (own_below hG5.2.1 ((Below.refl _ _).alloc (Nat.le_refl _) _)) ⟨_,0,none⟩ 1 1 (rawL k5 q5 n5 nm5 p5 l5 c5 a5) rfl rfl (World.news_of_block (heap_alloc_new _ _)) (rawL_one _ _ _ _ _ _ _ _) (by decide) (by unfold maxLen;omega) (by omega) (by simp;omega) _ rfl ?_;intro g4 cap4 w4 hown4 hgrow4 hor4 hlt4))
      have hgr4 : (w5.alloc (.cells #[.int .i64 k5,.int .i64 q5,.int .i64 n5,.string nm5,.slice p5 l5 c5,.int .i64 a5] 71)).grownBy w4 v.ownBlock:=hgrow4
      have hor4' : v.ownBlock = some g4 ∨ g4 = (w5.alloc (.cells #[.int .i64 k5,.int .i64 q5,.int .i64 n5,.string nm5,.slice p5 l5 c5,.int .i64 a5] 71)).heap.size:=hor4
      have hS9 : StR w4 rb g cap ws o r2.st:=by
       obtain ⟨i9,c9,a9,h1,_,h2⟩:=(hs5.alloc (.cells #[.int .i64 k5,.int .i64 q5,.int .i64 n5,.string nm5,.slice p5 l5 c5,.int .i64 a5] 71)).rd
       refine h2 _ _ ((hgr4.block rb h1.lt ?_).trans h1)
       intro e
       have:=(HLT.out rb e.symm).1
       omega
      go_roundw
      case rel =>
       refine ⟨_,r2.st,rfl,?_,hS9,?_,fun tt' h => Nat.le_trans (res_len HP2.out.1 HP2.out.2.2 h) HSL.out⟩
       · exact LRel.next hG5 hg5 (by simp;omega) (fun j hj => by (have:=(HLT.out j hj).2;simp;omega)) HP2.out.1 HP2.out.2.2 (by omega) HP2.out.2.1 hown4 hgr4 hor4'
       · exact Fr.stepOwn (v:=v) (((((hF.stepB hb7).set (.inl rfl) 1 (.int .i64 ((i7 : Int) + 1))).step hf5).alloc _)) hgr4 (fun j e => (HLT.out j e).1)
      case measure =>
       rw [hS9.ms,S1.out.ms]
       cases r2 with
       | ok e ts => have:=res_len HP2.out.1 HP2.out.2.2 rfl;simp only [RS.ms,Res.st,List.length_cons];omega
       | okL e ts => have:=res_len HP2.out.1 HP2.out.2.2 rfl;simp only [RS.ms,Res.st,List.length_cons];omega
       | bad c a => simp only [RS.ms,Res.st];omega
    · have hfk : KOk f:=E.out.kok f (hS.1.subset (by simp))
      have b2 : Hid ((RS.ok (f :: tt)).is (⟨#[44]⟩ : ByteArray).data.toList = false):=hid (isS_no hfk [] (by decide) hcm)
      obtain rfl:=hc2 hcm
      obtain ⟨p,k,rfl⟩:=hG.form
      have HG:=hid hG
      clear hS hG hc1 hc2 hcm hfk hsh
      go_wp2_with (go_at_call 56;(with_reducible refine (st_is S1.out E1.out _ false b2.out).mono ?_);rintro e' w7 ⟨rfl,hb7⟩)
      go_ret
      refine ⟨by (with_reducible repeat first | exact Fr.refl _ _ | refine Fr.alloc ?_ _ | refine Fr.drewN ?_ _ | refine Fr.drew ?_ | (refine Fr.set ?_ ?_ _ _;rotate_left;first | exact .inl rfl | (right;simp;done) | (right;simp;omega) | (right;omega)) | refine Fr.step ?_ (by assumption) | refine Fr.stepB ?_ (by assumption)),?_,_,_,_,rfl,?_⟩
      · show StR _ rb g cap ws o (.ok (f :: tt))
        (with_reducible repeat first | exact S1.out | refine StR.alloc ?_ _ | refine StR.drewN ?_ _ | refine StR.drew ?_ | refine StR.setO ?_ (by first | assumption | omega) _ _ | refine StR.stay ?_ (by assumption))
      · intro xs ts' e
        cases e
        exact ⟨rfl,((Grows.ex ⟨_,HG.out⟩ 0 0 0 [] 0).stay hb7).low (by omega)⟩
  · have b2 : Hid ((RS.bad c a).is (⟨#[44]⟩ : ByteArray).data.toList = false):=hid rfl
    clear hS hsh
    go_wp2_with (go_at_call 56;(with_reducible refine (st_is S1.out E1.out _ false b2.out).mono ?_);rintro e' w7 ⟨rfl,hb7⟩)
    go_ret
    refine ⟨by (with_reducible repeat first | exact Fr.refl _ _ | refine Fr.alloc ?_ _ | refine Fr.drewN ?_ _ | refine Fr.drew ?_ | (refine Fr.set ?_ ?_ _ _;rotate_left;first | exact .inl rfl | (right;simp;done) | (right;simp;omega) | (right;omega)) | refine Fr.step ?_ (by assumption) | refine Fr.stepB ?_ (by assumption)),?_,_,_,_,rfl,?_⟩
    · show StR _ rb g cap ws o (.bad c a)
      (with_reducible repeat first | exact S1.out | refine StR.alloc ?_ _ | refine StR.drewN ?_ _ | refine StR.drew ?_ | refine StR.setO ?_ (by first | assumption | omega) _ _ | refine StR.stay ?_ (by assumption))
    · intro xs ts' e
      cases e
end Go.Proofs.YtkhbbapocamlmaaDoor
