/- A region that draws its order: an invariant over what has come; what each slot holds once its operation has come. -/
import Derived.Test.YtjjjdghkeogljaaDoorIblk
import Derived.Orders
import Derived.Conc.Own4
namespace Go.Proofs.YtjjjdghkeogljaaDoor
set_option linter.unusedSimpArgs false
set_option linter.unusedVariables false
open Go

theorem wpAny_inv {P : Program} {md : Region.Mode} {ops : Array Oper} {Q : Exit → Act → World → Prop} (I : Array Bool → Act → World → Prop)
    (hstep : ∀ listed a w i, I listed a w → i ∈ Region.ready md ops listed → wpOp P ops Q i (fun a' w' => I (listed.setIfInBounds i true) a' w') a w)
    (hend : ∀ listed a w, I listed a w → Region.ready md ops listed = [] → Q .normal a w) :
    ∀ fuel listed a w, I listed a w → listed.size = ops.size → (listed.toList.filter (! ·)).length ≤ fuel → wpAny P md ops Q fuel listed a w := by
  intro fuel
  induction fuel with
  | zero =>
    intro listed a w hI hsz hf
    have hr : Region.ready md ops listed = [] := by
      unfold Region.ready
      rw [List.filter_eq_nil_iff]
      intro i hi
      have hi2 : i < listed.size := by rw [hsz]; exact List.mem_range.1 hi
      have hall : ∀ b ∈ listed.toList, b = true := by
        intro b hb
        have : (listed.toList.filter (! ·)) = [] := List.eq_nil_of_length_eq_zero (by omega)
        rw [List.filter_eq_nil_iff] at this
        have := this b hb
        simpa using this
      have : listed.getD i true = true := by
        rw [Array.getD_eq_getD_getElem?, Array.getElem?_eq_getElem hi2]
        exact hall _ (by simp)
      simp [this]
    exact ⟨hr, hend _ _ _ hI hr⟩
  | succ fuel ih =>
    intro listed a w hI hsz hf
    refine ⟨fun hr => hend _ _ _ hI hr, fun i hi => wpOp_mono (fun a' w' h' => ih _ _ _ h' (by simpa using hsz) ?_) (hstep _ _ _ _ hI hi)⟩
    have hi2 : i < listed.size := by
      unfold Region.ready at hi
      rw [List.mem_filter] at hi
      rw [hsz]
      exact List.mem_range.1 hi.1
    have hi3 : listed.toList[i]'(by simpa using hi2) = false := by
      unfold Region.ready at hi
      rw [List.mem_filter] at hi
      have := hi.2
      rw [Array.getD_eq_getD_getElem?, Array.getElem?_eq_getElem hi2] at this
      simp at this
      simpa using this.1
    rw [Array.toList_setIfInBounds]
    have key : ∀ (l : List Bool) (i : Nat) (h : i < l.length), l[i] = false → ((l.set i true).filter (! ·)).length + 1 = (l.filter (! ·)).length := by
      intro l
      induction l with
      | nil => intro i h; simp at h
      | cons b r ihr =>
        intro i h hb
        cases i with
        | zero =>
          simp at hb
          subst hb
          simp
        | succ i =>
          simp at h hb
          have := ihr i h hb
          cases b <;> simp <;> omega
    have := key listed.toList i (by simpa using hi2) hi3
    omega

/-- The slots of the region that lays a new reader's map: which operation writes which, and what. -/
theorem getD_put (a : Act) (d e : Nat) (v : Value) (hd : d < a.tmps.size) : (a.put (some d) v).tmps.getD e undef = if e = d then v else a.tmps.getD e undef := by
  show (a.tmps.setIfInBounds d v).getD e undef = _
  simp only [Array.getD_eq_getD_getElem?, Array.getElem?_setIfInBounds]
  by_cases h : d = e
  · subst h
    simp [hd]
  · rw [if_neg h, if_neg (fun e' => h e'.symm)]
theorem getD_set (listed : Array Bool) (i j : Nat) : (listed.setIfInBounds i true).getD j false = true → j = i ∨ listed.getD j false = true := by
  intro h
  by_cases hij : i = j
  · exact .inl hij.symm
  · right
    simp only [Array.getD_eq_getD_getElem?, Array.getElem?_setIfInBounds, if_neg hij] at h ⊢
    exact h
theorem getD_set_self {listed : Array Bool} {i : Nat} (hi : i < listed.size) : (listed.setIfInBounds i true).getD i false = true := by
  simp [Array.getD_eq_getD_getElem?, Array.getElem?_setIfInBounds, hi]
theorem getD_set_old {listed : Array Bool} {i j : Nat} (h : listed.getD j false = true) : (listed.setIfInBounds i true).getD j false = true := by
  by_cases hij : i = j
  · subst hij
    have hlt : i < listed.size := by
      rw [Array.getD_eq_getD_getElem?] at h
      by_cases hb : i < listed.size
      · exact hb
      · rw [Array.getElem?_eq_none (by omega)] at h
        cases h
    exact getD_set_self hlt
  · simp only [Array.getD_eq_getD_getElem?, Array.getElem?_setIfInBounds, if_neg hij] at h ⊢
    exact h
theorem wpOp_w {P : Program} {ops : Array Oper} {Q : Exit → Act → World → Prop} {i : Nat} {K : Act → World → Prop} {a : Act} {w : World} {o : Oper} (ho : ops[i]? = some o) (hg : Region.wanted o (yielded ops a.tmps) = true) (h : o.wp P a w K Q) : wpOp P ops Q i K a w := by
  unfold wpOp
  rw [ho]
  simp only [hg, if_true]
  exact .inl h
theorem wpOp_s {P : Program} {ops : Array Oper} {Q : Exit → Act → World → Prop} {i : Nat} {K : Act → World → Prop} {a : Act} {w : World} {o : Oper} (ho : ops[i]? = some o) (hg : Region.wanted o (yielded ops a.tmps) = false) (h : K (a.put o.dst undef) w) : wpOp P ops Q i K a w := by
  unfold wpOp
  rw [ho]
  simp only [hg]
  exact h
theorem wanted_at {ops : Array Oper} {tmps : Array Value} {o oj : Oper} {j d : Nat} {b c : Bool} (hg : o.guard = some (j, b)) (hj : ops[j]? = some oj) (hd : oj.dst = some d) (hv : tmps.getD d undef = .bool c) : Region.wanted o (yielded ops tmps) = (c == b) := by
  have h2 : tmps[d]? = some (.bool c) := by
    rw [Array.getD_eq_getD_getElem?] at hv
    cases h : tmps[d]? with
    | none => rw [h] at hv; cases hv
    | some v => rw [h] at hv; exact congrArg some hv
  unfold Region.wanted yielded
  rw [hg]
  simp only [hj, hd, Option.bind_some, h2]
  cases c <;> cases b <;> rfl

structure Ins (n sz : Nat) (dst : Nat → Nat) (vs : List (Option Value)) (t0 : Array Value) (listed : Array Bool) (a : Act) : Prop where
  size : listed.size = n
  tsz : a.tmps.size = sz
  defs : a.defers = []
  old : ∀ d, (∀ k, k < n → dst k ≠ d) → a.tmps.getD d undef = t0.getD d undef
  new : ∀ k v, k < n → vs[k]? = some (some v) → listed.getD k false = true → a.tmps.getD (dst k) undef = v
section
variable {n sz : Nat} {dst : Nat → Nat} {vs : List (Option Value)} {t0 : Array Value} {listed : Array Bool} {a : Act}
theorem Ins.put (h : Ins n sz dst vs t0 listed a) {k : Nat} {v : Value} (hk : k < n) (hlt : dst k < sz) (inj : ∀ i, i < n → dst i = dst k → i = k) (hv : ∀ u, vs[k]? = some (some u) → u = v) : Ins n sz dst vs t0 (listed.setIfInBounds k true) (a.put (some (dst k)) v) where
  size := by simpa using h.size
  tsz := by simpa [Act.put] using h.tsz
  defs := h.defs
  old := fun d hd => by
    rw [getD_put a _ _ _ (by rw [h.tsz]; exact hlt), if_neg (fun e => hd k hk e.symm)]
    exact h.old d hd
  new := fun j u hj hu hl => by
    rw [getD_put a _ _ _ (by rw [h.tsz]; exact hlt)]
    by_cases e : dst j = dst k
    · obtain rfl := inj j hj e
      rw [if_pos rfl]
      exact (hv u hu).symm
    · rw [if_neg e]
      rcases getD_set listed k j hl with rfl | hl
      · exact absurd rfl e
      · exact h.new j u hj hu hl
end
/-- Nothing is left, once none may come. -/
theorem all_came {md : Region.Mode} {ops : Array Oper} {listed : Array Bool} (hs : listed.size = ops.size) (hr : Region.ready md ops listed = [])
    (hb0 : ((List.range ops.size).all fun k => match ops[k]? with | some o => o.after.all (fun e => decide (e.on < k)) | none => true) = true) : ∀ k, k < ops.size → listed.getD k false = true := by
  have hb : ∀ (k : Nat) (o : Oper), ops[k]? = some o → ∀ e ∈ o.after, e.on < k := by
    intro k o ho e he
    have h1 := List.all_eq_true.1 hb0 k (List.mem_range.2 (Array.getElem?_eq_some_iff.1 ho).1)
    rw [ho] at h1
    have h2 := Array.all_eq_true_iff_forall_mem.1 h1 e he
    simpa using h2
  intro k
  induction k using Nat.strongRecOn with
  | _ k ih =>
    intro hk
    cases hc : listed.getD k false with
    | true => rfl
    | false =>
      exfalso
      have hn : k ∈ Region.ready md ops listed := by
        rw [mem_ready]
        refine ⟨?_, ops[k], Array.getElem?_eq_getElem hk, fun e he hbd => ?_⟩
        · rw [Array.getD_eq_getD_getElem?] at hc ⊢
          rw [Array.getElem?_eq_getElem (by omega)] at hc ⊢
          exact hc
        · have h1 := hb k _ (Array.getElem?_eq_getElem hk) e he
          have h2 := ih e.on h1 (by omega)
          rw [Array.getD_eq_getD_getElem?] at h2 ⊢
          rw [Array.getElem?_eq_getElem (by omega)] at h2 ⊢
          exact h2
      rw [hr] at hn
      cases hn
section
variable {P : Program} {o : Oper} {a : Act} {w : World} {K : Act → World → Prop} {Q : Exit → Act → World → Prop}
theorem wp_val {v : Value} (h : (execOp a.eval o).run P w = .ok (.value v) w) (hk : K (a.put o.dst v) w) : o.wp P a w K Q := by
  unfold Oper.wp
  rw [h]
  exact hk
theorem wp_enter {f : FuncId} {args : Array Value} (h : (execOp a.eval o).run P w = .ok (.enter f args) w) (hc : Calls P f args w fun e w' => ∃ v, e = .returned v ∧ K (a.put o.dst v) w') : o.wp P a w K Q := by
  unfold Oper.wp
  rw [h]
  refine Calls.mono hc fun e w' ⟨v, he, hk⟩ => ?_
  subst he
  exact hk
theorem run_move {ev : Operand → Value} {s : Operand} {v : Value} (ho : o.op = .move s ∨ o.op = .assign s) (h : ev s = v) : (execOp ev o).run P w = .ok (.value v) w := by
  subst h
  rcases ho with ho | ho
  · unfold execOp
    rw [ho]
    rfl
  · unfold execOp
    rw [ho]
    rfl
theorem run_pick {ev : Operand → Value} {c x y : Operand} {b : Bool} {v : Value} (ho : o.op = .pick c x y) (h : ev c = .bool b) (hv : (if b then ev x else ev y) = v) : (execOp ev o).run P w = .ok (.value v) w := by
  subst hv
  unfold execOp
  rw [ho]
  simp [h, asBool]
theorem run_load {ev : Operand → Value} {t : TypeId} {s : Operand} {ad : Addr} {v : Value} (ho : o.op = .load t s) (h : ev s = .pointer (some ad)) (hv : (loadVar t ad).run P w = .ok v w) : (execOp ev o).run P w = .ok (.value v) w := by
  unfold execOp
  rw [ho]
  simp [h, Instr.loadAt, Instr.sureAddr, hv, Result.andThen]
theorem run_bin {ev : Operand → Value} {b : BinOp} {t r : TypeId} {x y : Operand} {vx vy v : Value} (ho : o.op = .binOp b t x y r) (hx : ev x = vx) (hy : ev y = vy) (h : (do eqGuard b t x y vx vy; binOp b t vx vy : Sem Value).run P w = .ok v w) : (execOp ev o).run P w = .ok (.value v) w := by
  subst hx
  subst hy
  unfold execOp
  rw [ho]
  show ((do eqGuard b t x y (ev x) (ev y); binOp b t (ev x) (ev y) : Sem Value) >>= fun v => pure (Next.value v) : Sem Next).run P w = _
  rw [Sem.run_bind, h]
  rfl
theorem name_act {C : Code} (h : ∀ b, b = a → C.wp P Q b w) : C.wp P Q a w := h a rfl
end
theorem wpOp_of {P : Program} {ops : Array Oper} {Q : Exit → Act → World → Prop} {i : Nat} {K : Act → World → Prop} {a : Act} {w : World} {o : Oper} (ho : ops[i]? = some o) (hg : o.guard = none) (h : o.wp P a w K Q) : wpOp P ops Q i K a w := by
  unfold wpOp
  rw [ho]
  simp only [Region.wanted, hg, if_true]
  exact .inl h

/-- What holds of each slot whose operation has come, in the world as it is by now. -/
structure InP (n sz : Nat) (dst : Nat → Nat) (Pr : Nat → Value → World → Prop) (t0 : Array Value) (listed : Array Bool) (a : Act) (X : World) : Prop where
  size : listed.size = n
  tsz : a.tmps.size = sz
  defs : a.defers = []
  old : ∀ d, (∀ k, k < n → dst k ≠ d) → a.tmps.getD d undef = t0.getD d undef
  new : ∀ k, k < n → listed.getD k false = true → Pr k (a.tmps.getD (dst k) undef) X
theorem InP.put {n sz : Nat} {dst : Nat → Nat} {Pr : Nat → Value → World → Prop} {t0 : Array Value} {listed : Array Bool} {a : Act} {X X' : World} (h : InP n sz dst Pr t0 listed a X) {k : Nat} {v : Value} (hk : k < n) (hlt : dst k < sz) (inj : ∀ i, i < n → dst i = dst k → i = k)
    (mono : ∀ j u, j < n → Pr j u X → Pr j u X') (hv : Pr k v X') : InP n sz dst Pr t0 (listed.setIfInBounds k true) (a.put (some (dst k)) v) X' where
  size := by simpa using h.size
  tsz := by simpa [Act.put] using h.tsz
  defs := h.defs
  old := fun d hd => by
    rw [getD_put a _ _ _ (by rw [h.tsz]; exact hlt), if_neg (fun e => hd k hk e.symm)]
    exact h.old d hd
  new := fun j hj hl => by
    rw [getD_put a _ _ _ (by rw [h.tsz]; exact hlt)]
    by_cases e : dst j = dst k
    · obtain rfl := inj j hj e
      rw [if_pos rfl]
      exact hv
    · rw [if_neg e]
      rcases getD_set listed k j hl with rfl | hl
      · exact absurd rfl e
      · exact mono j _ hj (h.new j hj hl)
end Go.Proofs.YtjjjdghkeogljaaDoor
