/- expr.Of in the shapes in which its callers meet it, and palinglaw03.awake. -/
import Derived.Test.YtngfbpmabdmkeaaGreatDoorOf
import Derived.Test.YtngfbpmabdmkeaaGreatDoorBackB
import Derived.Test.YtngfbpmabdmkeaaGreatDoorPA
import Derived.Test.YtngfbpmabdmkeaaGreatDoorPB
import Derived.Test.YtngfbpmabdmkeaaGreatDoorPC
import Derived.StillTail
import Derived.StillTailTactics
import Derived.Test.YtngfbpmabdmkeaaGreatDoorProg
import Derived.KernelRfl
import Derived.Test.YtngfbpmabdmkeaaGreatDoorLaid
import Derived.Laws.OwnMore
namespace Go.Proofs.YtngfbpmabdmkeaaGreatDoor
open Go Go.RowKit

theorem numO_itoa {n : Int} (h0 : 0 ≤ n) (h1 : n ≤ 9223372036854775807) : numO (Lib.itoa n) = some n := by
  have e : (⟨(Lib.itoa n).toArray⟩ : ByteArray) = dig n := rfl
  unfold numO
  rw [e, num_dig h0 h1]
theorem numO_inv {t : List UInt8} {v : Int} (h : numO t = some v) : 0 ≤ v ∧ v ≤ 9223372036854775807 ∧ t = Lib.itoa v := by
  unfold numO at h
  split at h
  · rename_i u hu
    cases h
    unfold numM at hu
    split at hu
    · cases hu
    · split at hu
      · rename_i x hx
        split at hu
        · cases hu
        · split at hu
          · rename_i hneg hs
            cases hu
            have hb := (Lib.parseIntB_bounds hx).2
            refine ⟨by omega, by simp at hb; omega, ?_⟩
            have := by simpa [ByteArray.toList_eq] using hs
            rw [← this]
            rfl
          · cases hu
      · cases hu
  · cases h

/-- A text that is an expression. -/
theorem of_ok (s : ByteArray) (hs : s.size ≤ 16384) (x : Ex) (m : Nat) (hm : m = x.ks.length) (w : World) (L : Laid w) (hR : OfR s.data.toList (.ok x)) :
    Calls Tryz.prog 10 #[.string s] w fun e w' => ∃ p c, e = .returned (.tuple #[.agg #[.int .i64 x.k, .int .i64 x.op, .int .i64 x.n, .string (bstr x.nm), .slice p m c, .int .i64 x.a], .int .i64 0, .int .i64 0]) ∧ IsEx 0 w' x (.slice p m c) ∧ Below w.heap.size w w' :=
  (of_any s hs _ w (Lib.hid L) (Lib.hid hR)).mono fun e w' ⟨⟨p, l, c, h1, h2⟩, h3⟩ => by
    obtain ⟨p', c', h4⟩ := h1.form
    cases h4
    exact ⟨p, c, by rw [h2, hm], by rw [hm]; exact h1.low (Nat.zero_le _), h3⟩
/-- A text that is none. -/
theorem of_bad (s : ByteArray) (hs : s.size ≤ 16384) (c : Int) (a : Nat) (w : World) (L : Laid w) (hR : OfR s.data.toList (.bad c a)) :
    Calls Tryz.prog 10 #[.string s] w fun e w' => e = .returned (.tuple #[.agg #[.int .i64 0, .int .i64 0, .int .i64 0, .string ⟨#[]⟩, .slice none 0 0, .int .i64 0], .int .i64 c, .int .i64 a]) ∧ Below w.heap.size w w' :=
  (of_any s hs _ w (Lib.hid L) (Lib.hid hR)).mono fun e w' ⟨h1, h3⟩ => ⟨h1, h3⟩

theorem nm_one {c : UInt8} (h : isLetter c = true) (h2 : keyB [c] = false) : NameB [c] := ⟨c, [], rfl, h, by simp, by simp, h2⟩
theorem rk45 (v : Int) (a : Nat) : rkW ⟨2, [45], v, a⟩ = 9 := (rk_op (j := 1) (by decide) (by decide) v a).trans rfl
theorem rk42 (v : Int) (a : Nat) : rkW ⟨2, [42], v, a⟩ = 10 := (rk_op (j := 2) (by decide) (by decide) v a).trans rfl
theorem op45 : opB [45] = 1 := opB_of 1 (by decide) (by decide)
theorem op42 : opB [42] = 2 := opB_of 2 (by decide) (by decide)
theorem itoa2 : Lib.itoa 2 = [50] := by simp [Lib.itoa, Lib.decDigits]
theorem itoa1 : Lib.itoa 1 = [49] := by simp [Lib.itoa, Lib.decDigits]
theorem num2 : numO [50] = some 2 := itoa2 ▸ numO_itoa (n := 2) (by decide) (by decide)
theorem num1 : numO [49] = some 1 := itoa1 ▸ numO_itoa (n := 1) (by decide) (by decide)
theorem sg_ne {k : Int} {t t' : List UInt8} {v : Int} {a : Nat} (h : t ≠ t') : ¬ Sg ⟨k, t, v, a⟩ t' := fun e => h e.2
theorem rk_name (t : List UInt8) (v : Int) (a : Nat) : rkW ⟨0, t, v, a⟩ = 0 := rfl
theorem rk_end (t : List UInt8) (v : Int) (a : Nat) : rkW ⟨3, t, v, a⟩ = 0 := rfl

/-- The document's example. -/
def awE : Ex := .mk 6 1 0 [] [.mk 6 1 0 [] [.mk 2 0 0 [97] [] 0, .mk 2 0 0 [98] [] 4] 0, .mk 6 2 0 [] [.mk 4 0 0 [] [.mk 2 0 0 [99] [] 9] 8, .mk 0 0 2 [] [] 13] 8] 0
theorem aw_sc1 : Sc numO [97, 32, 45, 32, 98, 32, 45, 32, 45, 99, 32, 42, 32, 50] 0 [⟨0, [97], 0, 0⟩, ⟨2, [45], 0, 2⟩, ⟨0, [98], 0, 4⟩, ⟨2, [45], 0, 6⟩, ⟨2, [45], 0, 8⟩, ⟨0, [99], 0, 9⟩, ⟨2, [42], 0, 11⟩, ⟨1, [50], 2, 13⟩, ⟨3, [], 0, 14⟩] none := by
  have h2 := tok_num (num := numO) (n := 2) (by decide) (by rw [itoa2]; exact num2) (tl := []) Stop.nil
  rw [itoa2] at h2
  exact Sc.push (p := [97]) (by simp) (tok_name (nm_one (by decide) (by decide)) (.cons (by decide) _)) (Sc.space
    (Sc.one (c := 45) (by decide) (Sc.space
    (Sc.push (p := [98]) (by simp) (tok_name (nm_one (by decide) (by decide)) (.cons (by decide) _)) (Sc.space
    (Sc.one (c := 45) (by decide) (Sc.space
    (Sc.one (c := 45) (by decide)
    (Sc.push (p := [99]) (by simp) (tok_name (nm_one (by decide) (by decide)) (.cons (by decide) _)) (Sc.space
    (Sc.push (p := [42]) (by simp) (tok_op _ 2 (by decide) (by decide)) (Sc.space
    (Sc.push (p := [50]) (by simp) h2 (.done _))))))))))))))
theorem aw_of1 : OfR [97, 32, 45, 32, 98, 32, 45, 32, 45, 99, 32, 42, 32, 50] (.ok awE) := by
  have nv : ∀ (t : List UInt8) (a : Nat) (c : Wd) (ts : List Wd), keyB t = false → ¬ Sg c [91] → ¬ Sg c [40] → P 0 .thing (⟨0, t, 0, a⟩ :: c :: ts) (.ok (.mk 2 0 0 t [] a) (c :: ts)) := fun t a c ts h h1 h2 => .name rfl h (.namVar h1 h2)
  have hP : P 0 (.expr 1) [⟨0, [97], 0, 0⟩, ⟨2, [45], 0, 2⟩, ⟨0, [98], 0, 4⟩, ⟨2, [45], 0, 6⟩, ⟨2, [45], 0, 8⟩, ⟨0, [99], 0, 9⟩, ⟨2, [42], 0, 11⟩, ⟨1, [50], 2, 13⟩, ⟨3, [], 0, 14⟩]
      (.ok (.mk 6 (opB [45]) 0 [] [.mk 6 (opB [45]) 0 [] [.mk 2 0 0 [97] [] 0, .mk 2 0 0 [98] [] 4] 0, .mk 6 (opB [42]) 0 [] [.mk 4 0 0 [] [.mk 2 0 0 [99] [] 9] 8, .mk 0 0 2 [] [] 13] 8] 0) [⟨3, [], 0, 14⟩]) := by
    refine .expr (nv _ _ _ _ (by decide) (sg_ne (by decide)) (sg_ne (by decide))) ?_
    refine .loopMore (by rw [rk45]; decide) (.expr (nv _ _ _ _ (by decide) (sg_ne (by decide)) (sg_ne (by decide))) (.loopEnd (by rw [rk45, rk45]; decide))) ?_
    refine .loopMore (by rw [rk45]; decide) (.expr (.neg (sg_of _ _ _) (.behOk (by decide) (.name rfl (by decide) (.namVar (sg_ne (by decide)) (sg_ne (by decide)))))) ?_) (.loopEnd (by rw [rk_end]; decide))
    exact .loopMore (by rw [rk45, rk42]; decide) (.expr (.num rfl) (.loopEnd (by rw [rk_end, rk42]; decide))) (.loopEnd (by rw [rk_end, rk45]; decide))
  rw [op45, op42] at hP
  exact .ok aw_sc1 hP rfl
theorem aw_of2 : OfR [102, 40, 49, 44, 41] (.bad 11 4) := by
  have h2 := tok_num (num := numO) (n := 1) (by decide) (by rw [itoa1]; exact num1) (tl := [44, 41]) (.cons (by decide) _)
  rw [itoa1] at h2
  have hS : Sc numO [102, 40, 49, 44, 41] 0 [⟨0, [102], 0, 0⟩, ⟨2, [40], 0, 1⟩, ⟨1, [49], 1, 2⟩, ⟨2, [44], 0, 3⟩, ⟨2, [41], 0, 4⟩, ⟨3, [], 0, 5⟩] none :=
    Sc.push (p := [102]) (by simp) (tok_name (nm_one (by decide) (by decide)) (.cons (by decide) _)) (Sc.one (c := 40) (by decide)
    (Sc.push (p := [49]) (by simp) h2 (Sc.one (c := 44) (by decide) (Sc.one (c := 41) (by decide) (.done _)))))
  refine .bad hS (.exprBad (.name rfl (by decide) (.namCallBad (sg_of _ _ _) (.givBad (by decide) (fun e => absurd (show (1 : Int) = 2 from e.1) (by decide)) (.lstMore (.expr (.num rfl) (.loopEnd (by rw [rk_cm]; decide))) (sg_of _ _ _) (.lstBad (.exprBad (.stray ⟨by decide, fun h => absurd h (by decide), fun _ => by decide⟩))))))))
theorem aw_of3 : OfR [97, 32, 98] (.bad 11 2) := by
  have hS : Sc numO [97, 32, 98] 0 [⟨0, [97], 0, 0⟩, ⟨0, [98], 0, 2⟩, ⟨3, [], 0, 3⟩] none :=
    Sc.push (p := [97]) (by simp) (tok_name (nm_one (by decide) (by decide)) (.cons (by decide) _)) (Sc.space
    (Sc.push (p := [98]) (by simp) (tok_name (nm_one (by decide) (by decide)) Stop.nil) (.done _)))
  have hP : P 0 (.expr 1) [⟨0, [97], 0, 0⟩, ⟨0, [98], 0, 2⟩, ⟨3, [], 0, 3⟩] (.ok (.mk 2 0 0 [97] [] 0) [⟨0, [98], 0, 2⟩, ⟨3, [], 0, 3⟩]) :=
    .expr (.name rfl (by decide) (.namVar (sg_ne (by decide)) (sg_ne (by decide)))) (.loopEnd (by rw [rk_name]; decide))
  exact .stray hS hP (by decide)
theorem aw_txt : awE.txt = [97, 32, 45, 32, 98, 32, 45, 32, 45, 99, 32, 42, 32, 50] := by
  unfold awE
  simp only [txt_two, Ex.txtAt, txt_var, txt_neg, txt_num, itoa2, Ex.k, Ex.op]
  decide
theorem aw_nms : awE.nms = [[97], [98], [99]] := by decide
end Go.Proofs.YtngfbpmabdmkeaaGreatDoor
namespace Go.Proofs.YtngfbpmabdmkeaaGreatDoor
open Go Go.RowKit

theorem NameB.short {t : List UInt8} (h : NameB t) : t.length ≤ 100000 := by
  obtain ⟨_, _, _, _, _, h5, _⟩ := h
  omega
theorem Fit.shorts {o : Nat} {r : Int} {x : Ex} (h : Fit o r x) : Shorts x := by
  induction h with
  | num h1 h2 => exact .mk (by simp) (by simp)
  | tru | fls => exact .mk (by simp) (by simp)
  | var h => exact .mk h.short (by simp)
  | elem h _ _ ih => exact .mk h.short (by simpa using ih)
  | neg _ _ ih | not _ _ ih => exact .mk (by simp) (by simpa using ih)
  | two _ _ _ _ _ ih ih2 => exact .mk (by simp) (by simp; exact ⟨ih, ih2⟩)
  | brk _ _ _ _ ih => exact ih
  | call h _ _ ih => exact .mk h.short ih
theorem OfR.facts {l : List UInt8} {x : Ex} (h : OfR l (.ok x)) : Fit 0 1 x ∧ x.cnt ≤ l.length + 1 ∧ x.txt.length ≤ 5 * l.length := by
  cases h with
  | @ok ws ts d e hS hP hd =>
    have hw := hS.wd_ok fun t v hv => numO_inv hv
    have h1 := (hP.fit hw (Int.le_refl _) (by decide)).1
    have h2 := hP.wt hw (Int.le_refl _)
    have h3 := hS.lens_le
    have h4 := hS.few rfl
    have h5 : x.txt.length ≤ x.wt := by unfold Ex.wt; omega
    simp only [List.length_cons] at h2
    exact ⟨h1, by omega, by omega⟩
theorem OfR.at_le {l : List UInt8} {c : Int} {a : Nat} (h : OfR l (.bad c a)) : a ≤ l.length ∧ (c = 2 ∨ c = 10 ∨ c = 11) := by
  cases h with
  | @lex ws c a hS =>
    have h1 := hS.bad_lt _ _ rfl
    have h2 := hS.bad_code _ _ rfl
    exact ⟨by omega, by omega⟩
  | @bad ws c a hS hP =>
    obtain ⟨w, hw, e, -⟩ := hP.at_word (by simp) (by simp) (by simp) _ _ rfl
    have := (hS.place w hw).1
    have h2 := hP.code _ _ rfl
    exact ⟨by omega, by omega⟩
  | @stray ws ts d e hS hP hd =>
    have := (hS.place d (hP.suf.subset (by simp))).1
    exact ⟨by omega, .inr (.inr rfl)⟩
/-- What is shown is parsed, and the same. -/
theorem OfR.again {l : List UInt8} {x : Ex} (h : OfR l (.ok x)) : ∃ x', x.eqv x' = true ∧ OfR x.txt (.ok x') := by
  have hF := h.facts.1
  have hr := (hF.reads (num := numO) (fun n h0 h1 => numO_itoa h0 h1) (by decide)).2 [] 0 [⟨3, [], 0, 0 + (x.txtAt 1).length⟩] Stop.nil (.done _)
  rw [hF.low1] at hr
  obtain ⟨wx, hS, hp⟩ := hr
  obtain ⟨x', hx', hw⟩ := hp.whole
  rw [List.append_nil] at hS
  exact ⟨x', hx', .ok hS (hw ⟨3, [], 0, 0 + x.txt.length⟩ [] rfl ⟨fun e => absurd (show (3 : Int) = 2 from e.1) (by decide), fun e => absurd (show (3 : Int) = 2 from e.1) (by decide)⟩) rfl⟩
/-- What expr.Show says of it. -/
theorem show_of {l : List UInt8} {x : Ex} (h : OfR l (.ok x)) (hl : l.length ≤ 20000) (m : Nat) (hm : m = x.ks.length) (T : List UInt8) (hT : T = x.txt) (p : Option Addr) (c : Nat) (w : World) (hx : IsEx 0 w x (.slice p m c)) (L : Laid w) :
    Calls Tryz.prog 23 #[.agg #[.int .i64 x.k, .int .i64 x.op, .int .i64 x.n, .string (bstr x.nm), .slice p m c, .int .i64 x.a]] w fun e w' => e = .returned (.string (bstr T)) ∧ Below w.heap.size w w' := by
  subst hm
  have hf := h.facts
  exact shows_any x (by omega) (Lib.hid hf.1.nums) p c w (Lib.hid hx) (Lib.hid L) T (Lib.hid hT) (Lib.hid (by rw [hT]; omega))
theorem w64 {a : Int} (h0 : -9223372036854775808 ≤ a) (h1 : a ≤ 9223372036854775807) : wrap64 a = a := by
  unfold wrap64
  omega
theorem bs_size (t : List UInt8) : (bstr t).size = t.length := by
  show t.toArray.size = _
  simp
end Go.Proofs.YtngfbpmabdmkeaaGreatDoor
namespace Go.Proofs.YtngfbpmabdmkeaaGreatDoor
open Go

section
variable {P : Program} {ops : Array Oper} {md : Region.Mode} {Q : Exit → Act → World → Prop}

theorem letsOut_then {K : Act → World → Prop} (h : LetsOut (Exit.then K Q)) : LetsOut Q := h
theorem wp_unthen {o : Oper} {a : Act} {w : World} {next K : Act → World → Prop} (h : o.wp P a w next (Exit.then K Q)) : o.wp P a w next Q := by
  unfold Oper.wp at *
  generalize (execOp a.eval o).run P w = r at *
  cases r with
  | ok m w' =>
    cases m <;> simp only [Oper.upon] at h ⊢
    case enter f args =>
      refine Calls.mono h fun e w'' he => ?_
      cases e with
      | returned v => exact he
      | panicked c => exact he
      | outgrown => exact letsOut_then he
    all_goals exact h
  | halt x w' =>
    cases x <;> simp only [Oper.upon] at h ⊢
    case panic v => exact h

/-- So many more from k on have come. -/
def setAll : Array Bool → Nat → Nat → Array Bool
  | listed, _, 0 => listed
  | listed, k, m + 1 => setAll (listed.setIfInBounds k true) (k + 1) m
def seqP (md : Region.Mode) (ops : Array Oper) : Nat → Nat → Array Bool → Bool
  | 0, _, _ => true
  | m + 1, k, listed => decide (Region.ready md ops listed = [k]) && seqP md ops m (k + 1) (listed.setIfInBounds k true)

theorem any_forced {g : Nat} : ∀ (l : List Oper) (k : Nat) (listed : Array Bool) (a : Act) (w : World), (∀ j, j < l.length → l[j]? = ops[k + j]?) → seqP md ops l.length k listed = true →
    wpList P ops (Exit.then (fun a' w' => wpAny P md ops Q g (setAll listed k l.length) a' w') Q) l a w → wpAny P md ops Q (l.length + g) listed a w
  | [], _, _, _, _, _, _, h => by simpa [setAll, wpList, Exit.then] using h
  | o :: l, k, listed, a, w, hl, hB, h => by
    have h0 : ops[k]? = some o := by simpa using (hl 0 (by simp)).symm
    simp only [List.length_cons, seqP, Bool.and_eq_true, decide_eq_true_eq] at hB
    rw [List.length_cons, show l.length + 1 + g = (l.length + g) + 1 by omega]
    refine ⟨fun h1 => (by rw [hB.1] at h1; cases h1), fun i hi => ?_⟩
    rw [hB.1] at hi
    obtain rfl : i = k := by simpa using hi
    have ih := fun a' w' h' => any_forced (g := g) l (i + 1) (listed.setIfInBounds i true) a' w' (fun j hj => by have := hl (j + 1) (by simp; omega); simpa [Nat.add_assoc, Nat.add_comm 1 j] using this) hB.2 h'
    unfold wpOp
    simp only [h0]
    unfold wpList at h
    split
    · rename_i hw
      rw [if_pos hw] at h
      rcases h with h | ⟨h1, h2⟩
      · exact .inl (Oper.wp_mono (fun a' w' h' => ih a' w' h') (wp_unthen h))
      · exact .inr ⟨h1, letsOut_then h2⟩
    · rename_i hw
      rw [if_neg hw] at h
      exact ih _ _ h

/-- From here so many operations below n come, in whatever order, and then none of them is left. -/
def segOk (md : Region.Mode) (ops : Array Oper) (n : Nat) : Nat → Array Bool → Bool
  | 0, listed => (Region.ready md ops listed).all fun i => decide (n ≤ i)
  | f + 1, listed => !(Region.ready md ops listed).isEmpty && (Region.ready md ops listed).all fun i => decide (i < n) && segOk md ops n f (listed.setIfInBounds i true)

variable {w : World}
theorem seg_first {n i : Nat} {oi : Oper} {v : Value} {L : Array Bool → Act → Prop} (hi : ops[i]? = some oi) (hsel : ∀ (j : Nat) (o : Oper) cs b, ops[j]? = some o → o.op ≠ .select cs b) :
    ∀ (f : Nat) (listed : Array Bool) (a : Act), segOk md ops n (f + 1) listed = true →
      (∀ j oj, ops[j]? = some oj → j ≠ i → listed.getD j true = false → (∀ e ∈ oj.after, Region.binds md e = true → e.on ≠ i) → oi.apart ops oj = true) →
      i ∈ Region.ready md ops listed → YieldsAt P ops w oi v a →
      wpAnyL P md ops w n L f (listed.setIfInBounds i true) (a.put oi.dst v) → wpAnyL P md ops w n L (f + 1) listed a := by
  intro f
  induction f with
  | zero =>
    intro listed a hs _ hr hy H
    simp only [segOk, Bool.and_eq_true, List.all_eq_true, decide_eq_true_eq] at hs
    refine ⟨fun h => (by rw [h] at hr; cases hr), fun j hj => ?_⟩
    have hjn := (hs.2 j hj).1
    refine ⟨hjn, ?_⟩
    by_cases hji : j = i
    · subst hji; exact hy.stOp hi H
    · have h2 := (hs.2 i hr).2 j (ready_mono hj hji)
      omega
  | succ f ih =>
    intro listed a hs hfree hr hy H
    have hun := (mem_ready.1 hr).1
    have hs' := hs
    simp only [segOk] at hs'
    rw [Bool.and_eq_true] at hs'
    have hall0 := List.all_eq_true.1 hs'.2
    refine ⟨fun h => (by rw [h] at hr; cases hr), fun j hj => ?_⟩
    have hj0 := hall0 j hj
    rw [Bool.and_eq_true, decide_eq_true_eq] at hj0
    refine ⟨hj0.1, ?_⟩
    by_cases hji : j = i
    · subst hji; exact hy.stOp hi H
    · have h1 := (H.2 j (ready_mono hj hji)).2
      obtain ⟨hjun, oj, hoj, hall⟩ := mem_ready.1 hj
      have hnot : ∀ e ∈ oj.after, Region.binds md e = true → e.on ≠ i := fun e he hb heq => by
        have h1 := hall e he hb
        rw [heq, getD_both hun] at h1
        cases h1
      have h2 := stOp_put hoj (hfree j oj hoj hji hjun hnot) (fun cs b => hsel i oi cs b hi) (fun cs b => hsel j oj cs b hoj) hy h1
      have hfree' : ∀ k ok, ops[k]? = some ok → k ≠ i → (listed.setIfInBounds j true).getD k true = false →
          (∀ e ∈ ok.after, Region.binds md e = true → e.on ≠ i) → oi.apart ops ok = true := fun k ok hk hki hun hno => by
        refine hfree k ok hk hki ?_ hno
        by_cases hjk : j = k
        · subst hjk; exact hjun
        · rw [getD_set_ne true hjk] at hun; exact hun
      refine stOp_mono (fun a' h3 => ih (listed.setIfInBounds j true) a' hj0.2 hfree' (ready_mono hr (Ne.symm hji)) h3.1 ?_) h2
      rw [Array.setIfInBounds_comm _ _ hji]
      exact h3.2

def lexOk (md : Region.Mode) (ops : Array Oper) (n : Nat) : Nat → Nat → Array Bool → Bool
  | 0, _, _ => true
  | m + 1, k, listed => (Region.ready md ops listed).contains k && Region.free md ops listed k && segOk md ops n (m + 1) listed && lexOk md ops n m (k + 1) (listed.setIfInBounds k true)

theorem seg_lex {n : Nat} {Lq : Array Bool → Act → Prop} (hsel : Region.noSelect ops = true) :
    ∀ (l : List Oper) (k : Nat) (listed : Array Bool) (a : Act), (∀ j, j < l.length → l[j]? = ops[k + j]?) → lexOk md ops n l.length k listed = true → wpStill P ops w (Lq (setAll listed k l.length)) l a →
    wpAnyL P md ops w n Lq l.length listed a
  | [], k, listed, a, _, _, h => h
  | o :: l, k, listed, a, hl, hB, h => by
    have h0 : ops[k]? = some o := by simpa using (hl 0 (by simp)).symm
    simp only [List.length_cons, lexOk, Bool.and_eq_true] at hB
    obtain ⟨⟨⟨hr, hf⟩, hs⟩, hB'⟩ := hB
    have hr' : k ∈ Region.ready md ops listed := by simpa using hr
    have hst : stOp P ops w k (wpStill P ops w (Lq (setAll (listed.setIfInBounds k true) (k + 1) l.length)) l) a := by unfold stOp; simp only [h0]; exact h
    obtain ⟨v, hy, hK⟩ := yieldsAt_of_stOp h0 hst
    exact seg_first h0 (Region.noSelect_spec hsel) l.length listed a hs (Region.free_spec h0 hf) hr' hy
      (seg_lex hsel l (k + 1) _ _ (fun j hj => by have := hl (j + 1) (by simp; omega); simpa [Nat.add_assoc, Nat.add_comm 1 j] using this) hB' hK)

theorem any_seg {n g : Nat} {l : List Oper} {k : Nat} {listed : Array Bool} {a : Act} (hsel : Region.noSelect ops = true) (hl : ∀ j, j < l.length → l[j]? = ops[k + j]?) (hB : lexOk md ops n l.length k listed = true)
    (h : wpStill P ops w (fun a' => wpAny P md ops Q g (setAll listed k l.length) a' w) l a) : wpAny P md ops Q (l.length + g) listed a w :=
  wpAny_of_head (fun _ _ h => h) _ _ _ (seg_lex (Lq := fun listed' a' => wpAny P md ops Q g listed' a' w) hsel l k listed a hl hB h)
end

section
variable {P : Program} {Q : Exit → Act → World → Prop} {L : List Oper} {listed : Array Bool} {a : Act} {w : World}
theorem take_at {k m j : Nat} (h : j < ((L.drop k).take m).length) : ((L.drop k).take m)[j]? = L.toArray[k + j]? := by
  have h1 : j < m := by
    simp at h
    omega
  simp [List.getElem?_take, List.getElem?_drop, h1]
/-- All below k have come, of n. -/
def upto (n k : Nat) : Array Bool := (List.replicate k true ++ List.replicate (n - k) false).toArray
theorem upto_zero (n : Nat) : Array.replicate n false = upto n 0 := by
  apply Array.ext'
  simp [upto]
theorem upto_set {n k : Nat} (h : k < n) : (upto n k).setIfInBounds k true = upto n (k + 1) := by
  apply Array.ext'
  unfold upto
  obtain ⟨d, hd⟩ : ∃ d, n - k = d + 1 := ⟨n - k - 1, by omega⟩
  have h2 : n - (k + 1) = d := by omega
  rw [hd, h2, List.replicate_succ, List.replicate_succ']
  simp
theorem setAll_upto {n : Nat} : ∀ (m k : Nat), k + m ≤ n → setAll (upto n k) k m = upto n (k + m)
  | 0, k, _ => rfl
  | m + 1, k, h => by
    rw [setAll, upto_set (by omega), setAll_upto m (k + 1) (by omega)]
    congr 1
    omega
/-- The next m operations, from k on, stand in a forced order. -/
theorem next_forced (n k m : Nat) {f g : Nat} (hf : f = m + g) (hn : k + m ≤ n) (hm : ((L.drop k).take m).length = m) (hB : seqP .any L.toArray m k (upto n k) = true)
    (h : wpList P L.toArray (Exit.then (fun a' w' => wpAny P .any L.toArray Q g (upto n (k + m)) a' w') Q) ((L.drop k).take m) a w) : wpAny P .any L.toArray Q f (upto n k) a w := by
  have := any_forced (md := .any) (Q := Q) (g := g) ((L.drop k).take m) k (upto n k) a w (fun j hj => take_at hj) (by rw [hm]; exact hB) (by rw [hm, setAll_upto m k hn]; exact h)
  rw [hm] at this
  rw [hf]
  exact this
/-- The next m operations, from k on, only read, and may come in any order. -/
theorem next_any (n k m : Nat) {f g : Nat} (hf : f = m + g) (hn : k + m ≤ n) (hm : ((L.drop k).take m).length = m) (hsel : Region.noSelect L.toArray = true) (hB : lexOk .any L.toArray (k + m) m k (upto n k) = true)
    (h : wpStill P L.toArray w (fun a' => wpAny P .any L.toArray Q g (upto n (k + m)) a' w) ((L.drop k).take m) a) : wpAny P .any L.toArray Q f (upto n k) a w := by
  have := any_seg (md := .any) (Q := Q) (g := g) (l := (L.drop k).take m) hsel (fun j hj => take_at hj) (by rw [hm]; exact hB) (by rw [hm, setAll_upto m k hn]; exact h)
  rw [hm] at this
  rw [hf]
  exact this
/-- A region that draws its order, from its first operation on. -/
theorem region_upto {id n : Nat} (hm : P.follows .mixedOrders = true) (hn : L.length = n) (h : wpAny P .any L.toArray Q n (upto n 0) a w.drew) : (Code.region id L.toArray true).wp P Q a w := by
  refine wp_region_any hm ?_
  rw [List.size_toArray, hn, upto_zero]
  exact h
/-- What is left stands in a forced order. -/
theorem last_forced (k : Nat) {f : Nat} (hf : f = (L.drop k).length) (hB : Region.seqB .any L.toArray f k listed = true) (h : wpList P L.toArray Q (L.drop k) a w) : wpAny P .any L.toArray Q f listed a w := by
  rw [hf] at hB ⊢
  exact wpAny_of_seq (md := .any) (L.drop k) k listed a w (fun j => by simp [List.getElem?_drop]) hB h
end
end Go.Proofs.YtngfbpmabdmkeaaGreatDoor
namespace Go.Proofs.YtngfbpmabdmkeaaGreatDoor
open Go

/-- The operations of a region. -/
def regionOf (id : Nat) : Code → Option (Array Oper)
  | .region i ops _ => if i = id then some ops else none
  | .seq a b => match regionOf id a with | some x => some x | none => regionOf id b
  | .cond _ a b => match regionOf id a with | some x => some x | none => regionOf id b
  | .block _ c => regionOf id c
  | .loop c => regionOf id c
  | .scope c => regionOf id c
  | _ => none
noncomputable def awOps : List Oper := ((regionOf 5 (Tryz.f9.body.getD .skip)).getD #[]).toList
theorem aw_len : awOps.length = 73 := by kernel_rfl
theorem aw_sel : Region.noSelect awOps.toArray = true := by kernel_rfl
theorem aw_s0 : seqP .any awOps.toArray 16 0 (upto 73 0) = true := by kernel_rfl
theorem aw_s16 : seqP .any awOps.toArray 16 16 (upto 73 16) = true := by kernel_rfl
theorem aw_s32 : seqP .any awOps.toArray 16 32 (upto 73 32) = true := by kernel_rfl
theorem aw_s48 : lexOk .any awOps.toArray 50 2 48 (upto 73 48) = true := by kernel_rfl
theorem aw_s50 : seqP .any awOps.toArray 3 50 (upto 73 50) = true := by kernel_rfl
theorem aw_s53 : lexOk .any awOps.toArray 58 5 53 (upto 73 53) = true := by kernel_rfl
theorem aw_s58 : Region.seqB .any awOps.toArray 15 58 (upto 73 58) = true := by kernel_rfl
end Go.Proofs.YtngfbpmabdmkeaaGreatDoor
namespace Go.Proofs.YtngfbpmabdmkeaaGreatDoor
open Go Go.RowKit

def awK : Ex := .mk 6 1 0 [] [.mk 2 0 0 [97] [] 0, .mk 2 0 0 [98] [] 4] 0
/-- The example in memory: its variable, its kids. -/
structure Aw (W : World) (b g cap : Nat) (p0 : Option Addr) (c0 : Nat) : Prop where
  blk : Blk W b (.int .i64 6) (.int .i64 1) (.int .i64 0) (.string (bstr [])) (.slice (some ⟨g, 0, none⟩) 2 cap) (.int .i64 0)
  ex : IsEx 0 W awE (.slice (some ⟨g, 0, none⟩) 2 cap)
  ex0 : IsEx 0 W awK (.slice p0 2 c0)
  lt : g < W.heap.size
  d0 : W.cell? ⟨g, 0, none⟩ = some (.int .i64 6)
  d1 : W.cell? ⟨g, 1, none⟩ = some (.int .i64 1)
  d2 : W.cell? ⟨g, 2, none⟩ = some (.int .i64 0)
  d3 : W.cell? ⟨g, 3, none⟩ = some (.string (bstr []))
  d4 : W.cell? ⟨g, 4, none⟩ = some (.slice p0 2 c0)
  d5 : W.cell? ⟨g, 5, none⟩ = some (.int .i64 0)
  e1 : W.cell? ⟨g, 7, none⟩ = some (.int .i64 2)
theorem Aw.stay {W X : World} {b g cap : Nat} {p0 : Option Addr} {c0 : Nat} (h : Aw W b g cap p0 c0) (k : Below W.heap.size W X) : Aw X b g cap p0 c0 where
  blk := h.blk.stay k
  ex := h.ex.stay k
  ex0 := h.ex0.stay k
  lt := Nat.lt_of_lt_of_le h.lt k.size
  d0 := (k.cell (p := ⟨g, 0, none⟩) h.lt).trans h.d0
  d1 := (k.cell (p := ⟨g, 1, none⟩) h.lt).trans h.d1
  d2 := (k.cell (p := ⟨g, 2, none⟩) h.lt).trans h.d2
  d3 := (k.cell (p := ⟨g, 3, none⟩) h.lt).trans h.d3
  d4 := (k.cell (p := ⟨g, 4, none⟩) h.lt).trans h.d4
  d5 := (k.cell (p := ⟨g, 5, none⟩) h.lt).trans h.d5
  e1 := (k.cell (p := ⟨g, 7, none⟩) h.lt).trans h.e1
theorem Aw.alloc {W : World} {b g cap : Nat} {p0 : Option Addr} {c0 : Nat} (h : Aw W b g cap p0 c0) (o : Obj) : Aw (W.alloc o) b g cap p0 c0 := h.stay ((Below.refl _ _).alloc (Nat.le_refl _) _)
theorem Aw.new {W : World} {g cap : Nat} (h : IsEx 0 W awE (.slice (some ⟨g, 0, none⟩) 2 cap)) : ∃ p0 c0, Aw (W.alloc (.cells #[.int .i64 6, .int .i64 1, .int .i64 0, .string (bstr []), .slice (some ⟨g, 0, none⟩) 2 cap, .int .i64 0] 25)) W.heap.size g cap p0 c0 := by
  have h2 := h.alloc (.cells #[.int .i64 6, .int .i64 1, .int .i64 0, .string (bstr []), .slice (some ⟨g, 0, none⟩) 2 cap, .int .i64 0] 25)
  obtain ⟨g', cap', u, hp, -, hg, hyx, d⟩ := h2.kid (i := 0) (x := awK) rfl
  obtain ⟨p0, c0, rfl⟩ := hyx.form
  obtain ⟨g2, cap2, u2, hp2, -, hg2, -, e⟩ := h2.kid (i := 1) rfl
  obtain ⟨rfl, rfl⟩ : g = g' ∧ cap = cap' := by
    simp at hp
    exact ⟨hp.1, hp.2.2⟩
  obtain rfl : g = g2 := by
    simp at hp2
    exact hp2.1
  exact ⟨p0, c0, Blk.new rfl _ _ _ _ _ _, h2, hyx, hg, d.1, d.2.1, d.2.2.1, d.2.2.2.1, d.2.2.2.2.1, d.2.2.2.2.2, e.2.1⟩

theorem aw1 (w : World) (L : Laid w) : Calls Tryz.prog 10 #[.string ⟨#[97, 32, 45, 32, 98, 32, 45, 32, 45, 99, 32, 42, 32, 50]⟩] w fun e w' => ∃ g cap, e = .returned (.tuple #[.agg #[.int .i64 6, .int .i64 1, .int .i64 0, .string (bstr []), .slice (some ⟨g, 0, none⟩) 2 cap, .int .i64 0], .int .i64 0, .int .i64 0]) ∧ IsEx 0 w' awE (.slice (some ⟨g, 0, none⟩) 2 cap) ∧ Below w.heap.size w w' :=
  (of_ok ⟨#[97, 32, 45, 32, 98, 32, 45, 32, 45, 99, 32, 42, 32, 50]⟩ (by decide) awE 2 rfl w L aw_of1).mono fun e w' ⟨p, c, h1, h2, h3⟩ => by
    obtain ⟨g', cap', u, hp, -⟩ := h2.kid (i := 0) (x := awK) rfl
    obtain ⟨rfl, rfl⟩ : p = some ⟨g', 0, none⟩ ∧ c = cap' := by
      simp at hp
      exact ⟨hp.1, hp.2.2⟩
    exact ⟨g', c, h1, h2, h3⟩
theorem aw2 (w : World) (L : Laid w) : Calls Tryz.prog 10 #[.string ⟨#[102, 40, 49, 44, 41]⟩] w fun e w' => e = .returned (.tuple #[.agg #[.int .i64 0, .int .i64 0, .int .i64 0, .string ⟨#[]⟩, .slice none 0 0, .int .i64 0], .int .i64 11, .int .i64 4]) ∧ Below w.heap.size w w' :=
  of_bad ⟨#[102, 40, 49, 44, 41]⟩ (by decide) 11 4 w L aw_of2
theorem aw3 (w : World) (L : Laid w) : Calls Tryz.prog 10 #[.string ⟨#[97, 32, 98]⟩] w fun e w' => e = .returned (.tuple #[.agg #[.int .i64 0, .int .i64 0, .int .i64 0, .string ⟨#[]⟩, .slice none 0 0, .int .i64 0], .int .i64 11, .int .i64 2]) ∧ Below w.heap.size w w' :=
  of_bad ⟨#[97, 32, 98]⟩ (by decide) 11 2 w L aw_of3
theorem aw_shorts : Shorts awE := .mk (by decide) (by
  intro y hy
  rcases List.mem_cons.1 hy with rfl | hy
  · exact .mk (by decide) (by
      intro y hy
      rcases List.mem_cons.1 hy with rfl | hy
      · exact .mk (by decide) (by simp)
      · obtain rfl := List.mem_singleton.1 hy
        exact .mk (by decide) (by simp))
  · obtain rfl := List.mem_singleton.1 hy
    exact .mk (by decide) (by
      intro y hy
      rcases List.mem_cons.1 hy with rfl | hy
      · exact .mk (by decide) (by
          intro y hy
          obtain rfl := List.mem_singleton.1 hy
          exact .mk (by decide) (by simp))
      · obtain rfl := List.mem_singleton.1 hy
        exact .mk (by decide) (by simp)))
theorem aw_nums : Nums awE := .mk (by decide) (by decide) (by
  intro y hy
  rcases List.mem_cons.1 hy with rfl | hy
  · exact .mk (by decide) (by decide) (by
      intro y hy
      rcases List.mem_cons.1 hy with rfl | hy
      · exact .mk (by decide) (by decide) (by simp)
      · obtain rfl := List.mem_singleton.1 hy
        exact .mk (by decide) (by decide) (by simp))
  · obtain rfl := List.mem_singleton.1 hy
    exact .mk (by decide) (by decide) (by
      intro y hy
      rcases List.mem_cons.1 hy with rfl | hy
      · exact .mk (by decide) (by decide) (by
          intro y hy
          obtain rfl := List.mem_singleton.1 hy
          exact .mk (by decide) (by decide) (by simp))
      · obtain rfl := List.mem_singleton.1 hy
        exact .mk (by decide) (by decide) (by simp)))
theorem aw_names {g cap : Nat} (w : World) (hx : IsEx 0 w awE (.slice (some ⟨g, 0, none⟩) 2 cap)) : Calls Tryz.prog 12 #[.agg #[.int .i64 6, .int .i64 1, .int .i64 0, .string (bstr []), .slice (some ⟨g, 0, none⟩) 2 cap, .int .i64 0]] w fun e w' => ∃ gn cn, e = .returned (.slice (some ⟨gn, 0, none⟩) 3 cn) ∧ w'.cell? ⟨gn, 2, none⟩ = some (.string ⟨#[99]⟩) ∧ gn < w'.heap.size ∧ Below w.heap.size w w' :=
  (names_any awE (some ⟨g, 0, none⟩) 2 cap (Lib.hid rfl) (by decide) aw_shorts w hx).mono fun e w' ⟨q, k, c', h1, h2, h3⟩ => by
    have hd : ddp awE.nms = [[97], [98], [99]] := by decide
    rw [hd] at h2
    rcases h2.2 with ⟨_, h0⟩ | ⟨gn, cn, cur, hv, _, hg, _⟩
    · exact absurd h0 (by decide)
    · cases hv
      exact ⟨gn, _, h1, (h2.cellAt 2 (by decide)).trans rfl, (Array.getElem?_eq_some_iff.1 hg).1, h3⟩
theorem aw_show {g cap : Nat} (w : World) (L : Laid w) (hx : IsEx 0 w awE (.slice (some ⟨g, 0, none⟩) 2 cap)) : Calls Tryz.prog 23 #[.agg #[.int .i64 6, .int .i64 1, .int .i64 0, .string (bstr []), .slice (some ⟨g, 0, none⟩) 2 cap, .int .i64 0]] w fun e w' => e = .returned (.string ⟨#[97, 32, 45, 32, 98, 32, 45, 32, 45, 99, 32, 42, 32, 50]⟩) ∧ Below w.heap.size w w' :=
  shows_any awE (by decide) (Lib.hid aw_nums) (some ⟨g, 0, none⟩) cap w (Lib.hid hx) (Lib.hid L) [97, 32, 45, 32, 98, 32, 45, 32, 45, 99, 32, 42, 32, 50] (Lib.hid aw_txt.symm) (Lib.hid (by decide))
theorem aw_same {g cap : Nat} (w : World) (hx : IsEx 0 w awE (.slice (some ⟨g, 0, none⟩) 2 cap)) : Calls Tryz.prog 24 #[.agg #[.int .i64 6, .int .i64 1, .int .i64 0, .string (bstr []), .slice (some ⟨g, 0, none⟩) 2 cap, .int .i64 0], .agg #[.int .i64 6, .int .i64 1, .int .i64 0, .string (bstr []), .slice (some ⟨g, 0, none⟩) 2 cap, .int .i64 0]] w fun e w' => e = .returned (.bool true) ∧ Below w.heap.size w w' :=
  (same_any 100 awE awE (some ⟨g, 0, none⟩) (some ⟨g, 0, none⟩) cap cap w (by decide) hx hx).mono fun e w' h => ⟨by rw [h.1, eqv_refl], h.2⟩
theorem aw_diff {g cap : Nat} {p0 : Option Addr} {c0 : Nat} (w : World) (hx : IsEx 0 w awE (.slice (some ⟨g, 0, none⟩) 2 cap)) (hy : IsEx 0 w awK (.slice p0 2 c0)) : Calls Tryz.prog 24 #[.agg #[.int .i64 6, .int .i64 1, .int .i64 0, .string (bstr []), .slice (some ⟨g, 0, none⟩) 2 cap, .int .i64 0], .agg #[.int .i64 6, .int .i64 1, .int .i64 0, .string (bstr []), .slice p0 2 c0, .int .i64 0]] w fun e w' => e = .returned (.bool false) ∧ Below w.heap.size w w' :=
  (same_any 100 awE awK (some ⟨g, 0, none⟩) p0 cap c0 w (by decide) hx hy).mono fun e w' h => ⟨by (rw [h.1, show awE.eqv awK = false by decide]), h.2⟩

set_option maxRecDepth 100000 in
set_option maxHeartbeats 8000000 in
theorem awake_any (w : World) (L : Hid (Laid w)) : Calls Tryz.prog 9 #[] w fun e w' => e = .returned (.bool true) ∧ Below w.heap.size w w' := by
  go_enter Tryz.func9, Tryz.ntmps9
  go_wp2_with (first
    | (go_at_call 10; (with_reducible refine (aw1 _ (L.out.below (by (refine Fr.below ?_; (repeat (first | (with_reducible exact Fr.refl _ _) | (with_reducible refine Fr.alloc ?_ _) | (with_reducible refine Fr.drewN ?_ _) | (with_reducible refine Fr.drew ?_) | (with_reducible refine Fr.set ?_ ?_ _ _; rotate_left; first | exact .inl rfl | (right; simp; done) | (right; simp; omega) | (right; omega)) | (with_reducible refine Fr.step ?_ (by assumption)) | (with_reducible refine Fr.stepB ?_ (by assumption)))))))).mono ?_); rintro e w1 ⟨g, cap, rfl, hx1, hb1⟩; obtain ⟨p0, c0, A1⟩ := Aw.new hx1; have hz1 := hb1.size; (try simp at hz1))
    | (go_at_call 10; (with_reducible refine (aw2 _ (L.out.below (by (refine Fr.below ?_; (repeat (first | (with_reducible exact Fr.refl _ _) | (with_reducible refine Fr.alloc ?_ _) | (with_reducible refine Fr.drewN ?_ _) | (with_reducible refine Fr.drew ?_) | (with_reducible refine Fr.set ?_ ?_ _ _; rotate_left; first | exact .inl rfl | (right; simp; done) | (right; simp; omega) | (right; omega)) | (with_reducible refine Fr.step ?_ (by assumption)) | (with_reducible refine Fr.stepB ?_ (by assumption)))))))).mono ?_); rintro e w2 ⟨rfl, hb2⟩; have A2 := A1.stay hb2; have hz2 := hb2.size; (try simp at hz2))
    | (go_at_call 10; (with_reducible refine (aw3 _ (L.out.below (by (refine Fr.below ?_; (repeat (first | (with_reducible exact Fr.refl _ _) | (with_reducible refine Fr.alloc ?_ _) | (with_reducible refine Fr.drewN ?_ _) | (with_reducible refine Fr.drew ?_) | (with_reducible refine Fr.set ?_ ?_ _ _; rotate_left; first | exact .inl rfl | (right; simp; done) | (right; simp; omega) | (right; omega)) | (with_reducible refine Fr.step ?_ (by assumption)) | (with_reducible refine Fr.stepB ?_ (by assumption)))))))).mono ?_); rintro e w3 ⟨rfl, hb3⟩; have A3 := (A2.alloc _).stay hb3; have hz3 := hb3.size; (try simp at hz3); obtain ⟨bla, c0a, c1a, c2a, c3a, c4a, c5a, f0a, f1a, f2a, f3a, f4a, f5a⟩ := (A3.blk).facts)
    | (go_at_call 12; (with_reducible refine (aw_names _ (A3.ex.alloc _)).mono ?_); rintro e w4 ⟨gn, cn, rfl, hn4, hg4, hb4⟩; have A4 := (A3.alloc _).stay hb4; have hz4 := hb4.size; (try simp at hz4); clear bla c0a c1a c2a c3a c4a c5a f0a f1a f2a f3a f4a f5a; obtain ⟨blb, c0b, c1b, c2b, c3b, c4b, c5b, f0b, f1b, f2b, f3b, f4b, f5b⟩ := (A4.blk).facts))
  have hB4 : Below w.heap.size w w4 := by (refine Fr.below ?_; (repeat (first | (with_reducible exact Fr.refl _ _) | (with_reducible refine Fr.alloc ?_ _) | (with_reducible refine Fr.drewN ?_ _) | (with_reducible refine Fr.drew ?_) | (with_reducible refine Fr.set ?_ ?_ _ _; rotate_left; first | exact .inl rfl | (right; simp; done) | (right; simp; omega) | (right; omega)) | (with_reducible refine Fr.step ?_ (by assumption)) | (with_reducible refine Fr.stepB ?_ (by assumption)))))
  have L4 := Lib.hid (L.out.below hB4)
  have hS : Hid (Calls Tryz.prog 23 #[.agg #[.int .i64 6, .int .i64 1, .int .i64 0, .string (bstr []), .slice (some ⟨g, 0, none⟩) 2 cap, .int .i64 0]] w4.drew fun e w' => e = .returned (.string ⟨#[97, 32, 45, 32, 98, 32, 45, 32, 45, 99, 32, 42, 32, 50]⟩) ∧ Below w4.heap.size w4 w') := Lib.hid ((aw_show w4.drew (L4.out.below ((Below.refl _ _).drew)) A4.ex.drew).mono fun e w' h => ⟨h.1, ((Below.refl _ w4).drew).trans h.2⟩)
  obtain ⟨d0, d1, d2, d3, d4, d5, e1, lg4⟩ := And.intro A4.d0 (And.intro A4.d1 (And.intro A4.d2 (And.intro A4.d3 (And.intro A4.d4 (And.intro A4.d5 (And.intro A4.e1 A4.lt))))))
  clear hb1 hb2 hb3 hb4 A1 A2 A3 hx1 hz1 hz2 hz3 hz4
  refine region_upto (n := 73) (by kernel_rfl) (by kernel_rfl) ?_
  refine next_forced 73 0 16 (g := 57) (by decide) (by decide) (by kernel_rfl) aw_s0 ?_
  simp only [List.drop_succ_cons, List.drop_zero, List.take_succ_cons, List.take_zero]
  go_wp2
  refine next_forced 73 16 16 (g := 41) (by decide) (by decide) (by kernel_rfl) aw_s16 ?_
  simp only [List.drop_succ_cons, List.drop_zero, List.take_succ_cons, List.take_zero]
  go_wp2_with (go_at_call 23; (with_reducible refine hS.out.mono ?_); rintro e w5 ⟨rfl, hb5⟩; have A5 := A4.stay hb5; clear blb c0b c1b c2b c3b c4b c5b f0b f1b f2b f3b f4b f5b d0 d1 d2 d3 d4 d5 e1 lg4; obtain ⟨blc, c0c, c1c, c2c, c3c, c4c, c5c, f0c, f1c, f2c, f3c, f4c, f5c⟩ := (A5.blk).facts; have hn5 := (hb5.cell (p := ⟨gn, 2, none⟩) hg4).trans hn4; have hg5 := Nat.lt_of_lt_of_le hg4 hb5.size)
  refine next_forced 73 32 16 (g := 25) (by decide) (by decide) (by kernel_rfl) aw_s32 ?_
  simp only [List.drop_succ_cons, List.drop_zero, List.take_succ_cons, List.take_zero]
  go_wp2
  refine next_any 73 48 2 (g := 23) (by decide) (by decide) (by kernel_rfl) aw_sel aw_s48 ?_
  simp only [List.drop_succ_cons, List.drop_zero, List.take_succ_cons, List.take_zero]
  repeat still_step
  refine wpStill_nil ?_
  refine next_forced 73 50 3 (g := 20) (by decide) (by decide) (by kernel_rfl) aw_s50 ?_
  simp only [List.drop_succ_cons, List.drop_zero, List.take_succ_cons, List.take_zero]
  go_wp2_with (go_at_call 24; (with_reducible refine (aw_same _ A5.ex).mono ?_); rintro e w6 ⟨rfl, hb6⟩; have A6 := A5.stay hb6; clear blc c0c c1c c2c c3c c4c c5c f0c f1c f2c f3c f4c f5c; obtain ⟨bld, c0d, c1d, c2d, c3d, c4d, c5d, f0d, f1d, f2d, f3d, f4d, f5d⟩ := (A6.blk).facts; have hn6 := (hb6.cell (p := ⟨gn, 2, none⟩) hg5).trans hn5; have hg6 := Nat.lt_of_lt_of_le hg5 hb6.size; (obtain ⟨-, -, -, lg6, d06, d16, d26, d36, d46, d56, e16⟩ := id A6))
  refine next_any 73 53 5 (g := 15) (by decide) (by decide) (by kernel_rfl) aw_sel aw_s53 ?_
  simp only [List.drop_succ_cons, List.drop_zero, List.take_succ_cons, List.take_zero]
  repeat still_step
  refine wpStill_nil ?_
  refine last_forced 58 (by kernel_rfl) aw_s58 ?_
  simp only [List.drop_succ_cons, List.drop_zero]
  go_wp2_with (go_at_call 24; (with_reducible refine (aw_diff _ A6.ex A6.ex0).mono ?_); rintro e w7 ⟨rfl, hb7⟩; have hn7 := (hb7.cell (p := ⟨gn, 2, none⟩) hg6).trans hn6)
  go_ret
  exact ⟨rfl, hB4.trans ((hb5.trans ((hb6.mono hb5.size).trans (hb7.mono (Nat.le_trans hb5.size hb6.size)))).mono hB4.size)⟩
end Go.Proofs.YtngfbpmabdmkeaaGreatDoor
