/- A new reader: its map is laid in whatever order. -/
import Derived.Test.YtngfbpmabdmkeaaGreatDoorEx
import Derived.Orders
namespace Go.Proofs.YtngfbpmabdmkeaaGreatDoor
open Go Go.RowKit

/-- Whatever order is drawn: what holds at the start, and is handed on by each operation that may come, holds at the end. -/
theorem wpAny_inv {P : Program} {md : Region.Mode} {ops : Array Oper} {Q : Exit → Act → World → Prop} (I : Array Bool → Act → World → Prop)
    (hstep : ∀ listed a w i, I listed a w → i ∈ Region.ready md ops listed → wpOp P ops Q i (fun a' w' => I (listed.setIfInBounds i true) a' w') a w)
    (hend : ∀ listed a w, I listed a w → Region.ready md ops listed = [] → Q .normal a w) :
    ∀ fuel listed a w, I listed a w → listed.size = ops.size → (listed.toList.filter (! ·)).length ≤ fuel → wpAny P md ops Q fuel listed a w := by
  intro fuel
  induction fuel with
  | zero =>
    intro listed a w hI hsz hf
    have hr : Region.ready md ops listed = [] := by
      unfold Region.ready
      rw [List.filter_eq_nil_iff]
      intro i hi
      have hi2 : i < listed.size := by rw [hsz]; exact List.mem_range.1 hi
      have hall : ∀ b ∈ listed.toList, b = true := by
        intro b hb
        have : (listed.toList.filter (! ·)) = [] := List.eq_nil_of_length_eq_zero (by omega)
        rw [List.filter_eq_nil_iff] at this
        have := this b hb
        simpa using this
      have : listed.getD i true = true := by
        rw [Array.getD_eq_getD_getElem?, Array.getElem?_eq_getElem hi2]
        exact hall _ (by simp)
      simp [this]
    exact ⟨hr, hend _ _ _ hI hr⟩
  | succ fuel ih =>
    intro listed a w hI hsz hf
    refine ⟨fun hr => hend _ _ _ hI hr, fun i hi => wpOp_mono (fun a' w' h' => ih _ _ _ h' (by simpa using hsz) ?_) (hstep _ _ _ _ hI hi)⟩
    have hi2 : i < listed.size := by
      unfold Region.ready at hi
      rw [List.mem_filter] at hi
      rw [hsz]
      exact List.mem_range.1 hi.1
    have hi3 : listed.toList[i]'(by simpa using hi2) = false := by
      unfold Region.ready at hi
      rw [List.mem_filter] at hi
      have := hi.2
      rw [Array.getD_eq_getD_getElem?, Array.getElem?_eq_getElem hi2] at this
      simp at this
      simpa using this.1
    rw [Array.toList_setIfInBounds]
    have key : ∀ (l : List Bool) (i : Nat) (h : i < l.length), l[i] = false → ((l.set i true).filter (! ·)).length + 1 = (l.filter (! ·)).length := by
      intro l
      induction l with
      | nil => intro i h; simp at h
      | cons b r ihr =>
        intro i h hb
        cases i with
        | zero =>
          simp at hb
          subst hb
          simp
        | succ i =>
          simp at h hb
          have := ihr i h hb
          cases b <;> simp <;> omega
    have := key listed.toList i (by simpa using hi2) hi3
    omega

/-- The slots of the region that lays a new reader's map: which operation writes which, and what. -/
def slotN (i : Nat) : Option Nat :=
  if i = 0 then some 10 else if i = 1 then some 11 else if i = 23 then some 26 else if i = 24 then some 27 else if i = 25 then some 28 else if i < 23 then
    (if (i - 2) % 3 = 0 then some (12 + 2 * ((i - 2) / 3)) else if (i - 2) % 3 = 1 then some (13 + 2 * ((i - 2) / 3)) else none) else none
def valN (rb bx n0 i : Nat) : Value :=
  if i = 0 then .pointer (some ⟨rb, 0, none⟩) else if i = 1 then .map (some n0) else if i = 23 then .map (some n0) else if i = 24 then .pointer (some ⟨rb, 0, none⟩) else if i = 25 then .pointer (some ⟨rb, 3, none⟩) else
    (if (i - 2) % 3 = 0 then bkey ((i - 2) / 3) else bval bx ((i - 2) / 3))
theorem slotN_inj : ∀ i, i < 27 → ∀ j, j < 27 → ∀ d, slotN i = some d → slotN j = some d → i = j := by
  have h : ∀ i, i < 27 → ∀ j, j < 27 → slotN i = slotN j → (slotN i).isSome = true → i = j := by decide
  intro i hi j hj d h1 h2
  exact h i hi j hj (h1.trans h2.symm) (by rw [h1]; rfl)
theorem slotN_hi : ∀ i, i < 27 → ∀ d, slotN i = some d → 10 ≤ d ∧ d < 30 := by
  have h : ∀ i, i < 27 → ((slotN i).all fun d => 10 ≤ d && d < 30) = true := by decide
  intro i hi d hd
  have := h i hi
  rw [hd] at this
  simpa using this

def InSlots (rb bx n0 : Nat) (listed : Array Bool) (a : Act) : Prop :=
  a.defers = [] ∧ a.tmps.size = 30 ∧ a.tmps.getD 5 undef = .pointer (some ⟨bx, 0, none⟩) ∧ ∀ i, i < 27 → ∀ d, slotN i = some d → listed.getD i false = true → a.tmps.getD d undef = valN rb bx n0 i
theorem getD_put (a : Act) (d e : Nat) (v : Value) (hd : d < a.tmps.size) : (a.put (some d) v).tmps.getD e undef = if e = d then v else a.tmps.getD e undef := by
  show (a.tmps.setIfInBounds d v).getD e undef = _
  simp only [Array.getD_eq_getD_getElem?, Array.getElem?_setIfInBounds]
  by_cases h : d = e
  · subst h
    simp [hd]
  · rw [if_neg h, if_neg (fun e' => h e'.symm)]
theorem getD_set (listed : Array Bool) (i j : Nat) : (listed.setIfInBounds i true).getD j false = true → j = i ∨ listed.getD j false = true := by
  intro h
  by_cases hij : i = j
  · exact .inl hij.symm
  · right
    simp only [Array.getD_eq_getD_getElem?, Array.getElem?_setIfInBounds, if_neg hij] at h ⊢
    exact h
theorem getD_set_self {listed : Array Bool} {i : Nat} (hi : i < listed.size) : (listed.setIfInBounds i true).getD i false = true := by
  simp [Array.getD_eq_getD_getElem?, Array.getElem?_setIfInBounds, hi]
theorem getD_set_old {listed : Array Bool} {i j : Nat} (h : listed.getD j false = true) : (listed.setIfInBounds i true).getD j false = true := by
  by_cases hij : i = j
  · subst hij
    have hlt : i < listed.size := by
      rw [Array.getD_eq_getD_getElem?] at h
      by_cases hb : i < listed.size
      · exact hb
      · rw [Array.getElem?_eq_none (by omega)] at h
        cases h
    exact getD_set_self hlt
  · simp only [Array.getD_eq_getD_getElem?, Array.getElem?_setIfInBounds, if_neg hij] at h ⊢
    exact h
theorem InSlots.put {rb bx n0 : Nat} {listed : Array Bool} {a : Act} (h : InSlots rb bx n0 listed a) {i d : Nat} (hi : i < 27) (hd : slotN i = some d) : InSlots rb bx n0 (listed.setIfInBounds i true) (a.put (some d) (valN rb bx n0 i)) := by
  obtain ⟨h1, h2, h3, h4⟩ := h
  have hb := slotN_hi i hi d hd
  refine ⟨h1, by simpa [Act.put] using h2, ?_, ?_⟩
  · rw [getD_put a d 5 _ (by omega), if_neg (by omega)]
    exact h3
  · intro j hj e he hl
    rw [getD_put a d e _ (by omega)]
    rcases getD_set listed i j hl with rfl | hl
    · have : e = d := Option.some.inj (he.symm.trans hd)
      rw [if_pos this]
    · by_cases hed : e = d
      · subst hed
        rw [if_pos rfl, slotN_inj j hj i hi e he hd]
      · rw [if_neg hed]
        exact h4 j hj e he hl
theorem InSlots.none {rb bx n0 : Nat} {listed : Array Bool} {a : Act} (h : InSlots rb bx n0 listed a) {i : Nat} (hd : slotN i = .none) (hi : i < 27) (v : Value) : InSlots rb bx n0 (listed.setIfInBounds i true) (a.put .none v) := by
  obtain ⟨h1, h2, h3, h4⟩ := h
  refine ⟨h1, h2, h3, fun j hj e he hl => ?_⟩
  rcases getD_set listed i j hl with rfl | hl
  · rw [hd] at he
    cases he
  · exact h4 j hj e he hl
theorem InSlots.at {rb bx n0 : Nat} {listed : Array Bool} {a : Act} (h : InSlots rb bx n0 listed a) {i d : Nat} (hi : i < 27) (hd : slotN i = some d) (hl : listed.getD i false = true) : a.eval (.tmp d) = valN rb bx n0 i := h.2.2.2 i hi d hd hl

/-- What memory is, so far. -/
def InWorld (rb bx n0 : Nat) (sl mp0 : Value) (nx : Int) (w0 : World) (listed : Array Bool) (X : World) : Prop :=
  Fr (some rb) w0 X ∧ w0.heap.size = n0 ∧ RdAt X rb sl (if listed.getD 26 false = true then .map (some n0) else mp0) nx 0 0 0 ∧
    (if listed.getD 1 false = true then X.heap.size = n0 + 1 ∧ ∃ es clock, X.heap[n0]? = some (.map es clock) ∧ BegEs (fun j => listed.getD (4 + 3 * j) false = true) bx es else X.heap.size = n0)

section
variable {rb bx n0 : Nat} {sl mp0 : Value} {nx : Int} {w0 X : World} {listed : Array Bool}
theorem InWorld.keep (h : InWorld rb bx n0 sl mp0 nx w0 listed X) {i : Nat} (h26 : i ≠ 26) (h1 : i ≠ 1) (hj : ∀ j, j < 7 → i ≠ 4 + 3 * j) : InWorld rb bx n0 sl mp0 nx w0 (listed.setIfInBounds i true) X := by
  have e : ∀ k, k ≠ i → (listed.setIfInBounds i true).getD k false = listed.getD k false := by
    intro k hk
    simp only [Array.getD_eq_getD_getElem?, Array.getElem?_setIfInBounds]
    rw [if_neg (fun h => hk h.symm)]
  obtain ⟨a, b, c, d⟩ := h
  refine ⟨a, b, by rw [e 26 (fun h => h26 h.symm)]; exact c, ?_⟩
  rw [e 1 (fun h => h1 h.symm)]
  split at d
  · rename_i hl
    rw [if_pos hl]
    refine ⟨d.1, ?_⟩
    obtain ⟨es, clock, d1, d2, d3⟩ := d.2
    refine ⟨es, clock, d1, ?_, ?_⟩
    · intro x hx
      obtain ⟨j, hj1, hj2, hj3⟩ := d2 x hx
      exact ⟨j, hj1, by show (listed.setIfInBounds i true).getD (4 + 3 * j) false = true; rw [e _ (fun h => hj j hj1 h.symm)]; exact hj2, hj3⟩
    · intro j hj1 hj2
      have hj2 : (listed.setIfInBounds i true).getD (4 + 3 * j) false = true := hj2
      rw [e _ (fun h => hj j hj1 h.symm)] at hj2
      exact d3 j hj1 hj2
  · rename_i hl
    rw [if_neg hl]
    exact d
theorem set_other {i k : Nat} (h : k ≠ i) : (listed.setIfInBounds i true).getD k false = listed.getD k false := by
  simp only [Array.getD_eq_getD_getElem?, Array.getElem?_setIfInBounds]
  rw [if_neg (fun e => h e.symm)]
theorem InWorld.made (h : InWorld rb bx n0 sl mp0 nx w0 listed X) (hs : listed.size = 27) (hl : listed.getD 1 false = false) (hno : ∀ j, j < 7 → listed.getD (4 + 3 * j) false = false) : InWorld rb bx n0 sl mp0 nx w0 (listed.setIfInBounds 1 true) (X.alloc (.map #[] 0)) ∧ X.heap.size = n0 := by
  obtain ⟨a, b, c, d⟩ := h
  rw [hl] at d
  simp at d
  refine ⟨⟨a.alloc _, b, ?_, ?_⟩, d⟩
  · rw [set_other (by decide)]
    exact c.alloc _
  · rw [if_pos (getD_set_self (by omega))]
    refine ⟨by simp [d], #[], 0, ?_, ?_, ?_⟩
    · rw [← d]
      exact heap_new X _
    · simp
    · intro j hj1 hj2
      have hj2 : (listed.setIfInBounds 1 true).getD (4 + 3 * j) false = true := hj2
      rw [set_other (by omega), hno j hj1] at hj2
      cases hj2
theorem InWorld.stored (h : InWorld rb bx n0 sl mp0 nx w0 listed X) (hs : listed.size = 27) (hn : n0 ≠ rb) : InWorld rb bx n0 sl mp0 nx w0 (listed.setIfInBounds 26 true) (X.setCell ⟨rb, 3, none⟩ (.map (some n0))) := by
  obtain ⟨a, b, c, d⟩ := h
  refine ⟨a.set (.inl rfl) _ _, b, ?_, ?_⟩
  · rw [if_pos (getD_set_self (by omega))]
    exact heap_setCell_same X rb 3 _ _ _ c
  · rw [set_other (by decide)]
    split at d
    · rename_i hl
      rw [if_pos hl]
      obtain ⟨d0, es, clock, d1, d2, d3⟩ := d
      refine ⟨by simpa [World.setCell] using d0, es, clock, (heap_setCell_other X ⟨rb, 3, none⟩ n0 _ hn).trans d1, ?_, ?_⟩
      · intro x hx
        obtain ⟨j, hj1, hj2, hj3⟩ := d2 x hx
        exact ⟨j, hj1, by show (listed.setIfInBounds 26 true).getD (4 + 3 * j) false = true; rw [set_other (by omega)]; exact hj2, hj3⟩
      · intro j hj1 hj2
        have hj2 : (listed.setIfInBounds 26 true).getD (4 + 3 * j) false = true := hj2
        rw [set_other (by omega)] at hj2
        exact d3 j hj1 hj2
    · rename_i hl
      rw [if_neg hl]
      simpa [World.setCell] using d
/-- An entry more. -/
theorem InWorld.put (h : InWorld rb bx n0 sl mp0 nx w0 listed X) (hs : listed.size = 27) (hn : n0 ≠ rb) (h1 : listed.getD 1 false = true) {j : Nat} (hj : j < 7) (hl : listed.getD (4 + 3 * j) false = false) :
    ∃ X', (Instr.mapUpdate 122 (.map (some n0)) (bkey j) (bval bx j)).run Tryz.prog X = .ok () X' ∧ InWorld rb bx n0 sl mp0 nx w0 (listed.setIfInBounds (4 + 3 * j) true) X' := by
  obtain ⟨a, b, c, d⟩ := h
  rw [if_pos h1] at d
  obtain ⟨d0, es, clock, d1, dE⟩ := d
  obtain ⟨k, t, hk⟩ := bkey_form j
  obtain ⟨r, f1, f2, f3⟩ := find_key X k t es.toList dE.form
  have hr : r = none := by
    cases hr : r with
    | none => rfl
    | some nv =>
      obtain ⟨n, v⟩ := nv
      obtain ⟨e, he, h4, h5⟩ := f3 n v hr
      obtain ⟨j', hj', hS, h6, _⟩ := dE.1 e he
      obtain rfl : j' = j := bkey_inj j' j hj' hj (by rw [← h6, h4, hk])
      rw [hl] at hS
      cases hS
  subst hr
  refine ⟨{ X with heap := X.heap.setIfInBounds n0 (.map (es.push { key := bkey j, val := bval bx j, born := clock }) (clock + 1)) }, ?_, ?_⟩
  · simp only [Instr.mapUpdate, Sem.run_bind, run_underlying Tryz.underlying122, Result.andThen_ok]
    rw [hk]
    simp [Go.MapKept.run_getObj_map d1, opn_check, f1, Go.MapKept.run_setObj_map _ d1]
  · have hlt : n0 < X.heap.size := (Array.getElem?_eq_some_iff.1 d1).1
    have hoth : ∀ k', k' ≠ n0 → ({ X with heap := X.heap.setIfInBounds n0 (.map (es.push { key := bkey j, val := bval bx j, born := clock }) (clock + 1)) } : World).heap[k']? = X.heap[k']? := by
      intro k' hk'
      show (X.heap.setIfInBounds n0 _)[k']? = _
      rw [Array.getElem?_setIfInBounds, if_neg (fun e => hk' e.symm)]
    refine ⟨?_, b, ?_, ?_⟩
    · have a' : w0.grownBy X (some rb) := a
      suffices hs : w0.grownBy _ (some rb) from hs
      refine ⟨a'.os, a'.tape, a'.output, by simpa using a'.size, fun k' hk' hne => ?_⟩
      exact (hoth k' (by omega)).trans (a'.block k' hk' hne)
    · rw [set_other (by omega)]
      exact (hoth rb (fun e => hn e.symm)).trans c
    · rw [if_pos (by rw [set_other (by omega)]; exact h1)]
      refine ⟨by simpa using d0, es.push { key := bkey j, val := bval bx j, born := clock }, clock + 1, ?_, ?_, ?_⟩
      · show (X.heap.setIfInBounds n0 _)[n0]? = _
        rw [Array.getElem?_setIfInBounds, if_pos rfl, if_pos hlt]
      · intro x hx
        rw [Array.toList_push] at hx
        rcases List.mem_append.1 hx with hx | hx
        · obtain ⟨j', q1, q2, q3⟩ := dE.1 x hx
          exact ⟨j', q1, getD_set_old q2, q3⟩
        · simp at hx
          subst hx
          exact ⟨j, hj, getD_set_self (by omega), rfl, rfl⟩
      · intro j' q1 q2
        rw [Array.toList_push]
        rcases getD_set listed _ _ q2 with q | q
        · obtain rfl : j' = j := by omega
          exact ⟨_, List.mem_append.2 (.inr (List.mem_singleton.2 rfl)), rfl⟩
        · obtain ⟨e, he, h6⟩ := dE.2 j' q1 q
          exact ⟨e, List.mem_append.2 (.inl he), h6⟩
end

theorem wpOp_of {P : Program} {ops : Array Oper} {Q : Exit → Act → World → Prop} {i : Nat} {K : Act → World → Prop} {a : Act} {w : World} {o : Oper} (ho : ops[i]? = some o) (hg : o.guard = none) (h : o.wp P a w K Q) : wpOp P ops Q i K a w := by
  unfold wpOp
  rw [ho]
  simp only [Region.wanted, hg, if_true]
  exact .inl h

/-- No entry ahead of the map. -/
def Dep (listed : Array Bool) : Prop := ∀ j, j < 7 → listed.getD (4 + 3 * j) false = true → listed.getD 1 false = true
theorem Dep.set {listed : Array Bool} (h : Dep listed) {k : Nat} (hk : ∀ j, j < 7 → k = 4 + 3 * j → listed.getD 1 false = true) : Dep (listed.setIfInBounds k true) := by
  intro j hj hl
  rcases getD_set listed k _ hl with e | e
  · exact getD_set_old (hk j hj e.symm)
  · exact getD_set_old (h j hj e)
theorem Dep.no {listed : Array Bool} (h : Dep listed) (h1 : listed.getD 1 false = false) : ∀ j, j < 7 → listed.getD (4 + 3 * j) false = false := by
  intro j hj
  cases hb : listed.getD (4 + 3 * j) false with
  | false => rfl
  | true =>
    have := h j hj hb
    rw [h1] at this
    cases this
theorem unlisted {listed : Array Bool} {i : Nat} (h : listed[i]?.getD true = false) : listed.getD i false = false := by
  rw [Array.getD_eq_getD_getElem?]
  cases hb : listed[i]? with
  | none => rfl
  | some b =>
    rw [hb] at h
    exact h
end Go.Proofs.YtngfbpmabdmkeaaGreatDoor
