/- expr.Same and expr.Names, which range over functions. -/
import Derived.StillTail
import Derived.StillTailTactics
import Derived.OrdersIn
import Derived.TacticsIn
import Derived.RangeFuncNested
import Derived.RangeFuncBound
import Derived.RangeFuncCalls
import Derived.RangeFuncLeaves
import Derived.Shelf.Abstract
import Derived.Shelf.RegionOpen
import Derived.OwnWalkIn
import Derived.TacticsInMore
import Derived.LoopNIn
import Derived.LoopIn
import Derived.Test.YtngfbpmabdmkeaaGreatDoorSameR
import Derived.Test.YtngfbpmabdmkeaaGreatDoorPB
import Derived.RangeFuncWrites
import Derived.RangeFuncBox
import Derived.Maps.OwnIn
import Derived.Maps.AppendAt
import Derived.StringKeys
import Derived.Test.YtngfbpmabdmkeaaGreatDoorKey
import Derived.Test.YtngfbpmabdmkeaaGreatDoorWords
import Derived.Test.YtngfbpmabdmkeaaGreatDoorPA
namespace Go.Proofs.YtngfbpmabdmkeaaGreatDoor
open Go

section
variable {P : Program} {ops : Array Oper} {md : Region.Mode} {w : World} {n : Nat}

theorem wide_of_still {o : Oper} {a : Act} {K : Act → Prop} {K' : Act → World → Prop} {Q' : Exit → Act → World → Prop} (h : ∀ a, K a → K' a w) (hh : o.still P a w K) : o.wpIn Fence.wide n P a w K' Q' := by
  refine ⟨fun _ _ => trivial, ?_⟩
  unfold Oper.still at hh
  have e : o.semAt Fence.wide.round a.eval = execOp a.eval o := rfl
  rw [e]
  generalize (execOp a.eval o).run P w = r at *
  cases r with
  | ok m w' =>
    cases m <;> simp only [Oper.stillUpon] at hh <;> simp only [Oper.uponIn]
    case enter f args =>
      obtain ⟨rfl, v, hc, hn⟩ := hh
      exact ⟨fun h => (by cases h), CallsIn.mono (callsIn_wide.2 hc) fun e w'' ⟨he, hw⟩ => by subst he; subst hw; exact h _ hn⟩
    all_goals (obtain ⟨rfl, h2⟩ := hh; exact h _ h2)
  | halt x w' => simp only [Oper.stillUpon] at hh

theorem wideOp_of_stOp {i : Nat} {a : Act} {K : Act → Prop} {K' : Act → World → Prop} {Q' : Exit → Act → World → Prop} (h : ∀ a, K a → K' a w) (hh : stOp P ops w i K a) : wpOpIn Fence.wide n P ops Q' i K' a w := by
  unfold stOp at hh
  unfold wpOpIn
  split
  · rename_i ho; simp only [ho] at hh; exact h _ hh
  · rename_i o ho
    simp only [ho] at hh
    split
    · rename_i hw; simp only [hw, if_true] at hh; exact wide_of_still h hh
    · rename_i hw; simp only [hw] at hh; exact ⟨fun _ _ => trivial, h _ hh⟩

theorem wideAny_of_head {k g : Nat} {L : Array Bool → Act → Prop} {Q' : Exit → Act → World → Prop} (hL : ∀ listed a, L listed a → wpAnyIn Fence.wide n P md ops Q' g listed a w) :
    ∀ (f : Nat) (listed : Array Bool) (a : Act), wpAnyL P md ops w k L f listed a → wpAnyIn Fence.wide n P md ops Q' (f + g) listed a w
  | 0, listed, a, h => by rw [Nat.zero_add]; exact hL _ _ h
  | f + 1, listed, a, h => by
    rw [show f + 1 + g = (f + g) + 1 by omega]
    exact ⟨fun h0 => absurd h0 h.1, fun i hi => wideOp_of_stOp (fun a' h' => wideAny_of_head hL f _ a' h') (h.2 i hi).2⟩

theorem wideAny_of_seq {Q' : Exit → Act → World → Prop} : ∀ (l : List Oper) (k : Nat) (listed : Array Bool) (a : Act) (w : World), (∀ j, l[j]? = ops[k + j]?) →
    Region.seqB md ops l.length k listed = true → wpListIn Fence.wide n P ops Q' l a w → wpAnyIn Fence.wide n P md ops Q' l.length listed a w
  | [], _, _, _, _, _, hB, h => ⟨by simpa [Region.seqB] using hB, h⟩
  | o :: l, k, listed, a, w, hl, hB, h => by
    have h0 : ops[k]? = some o := by simpa using (hl 0).symm
    simp only [List.length_cons, Region.seqB, Bool.and_eq_true, decide_eq_true_eq] at hB
    refine ⟨fun h1 => (by rw [hB.1] at h1; cases h1), fun i hi => ?_⟩
    rw [hB.1] at hi
    have hik : i = k := by simpa using hi
    subst hik
    have hw : wpOpIn Fence.wide n P ops Q' i (wpListIn Fence.wide n P ops Q' l) a w := by unfold wpOpIn; simp only [h0]; exact h
    exact wpOpIn_mono (fun a' w' h' => wideAny_of_seq l (i + 1) _ a' w' (fun j => by have := hl (j + 1); simpa [Nat.add_assoc, Nat.add_comm 1 j] using this) hB.2 h') hw

theorem wide_region_still_tail {id : Nat} {Q : Exit → Act → World → Prop} {a : Act} {w : World} {l : List Oper} (k : Nat) (hm : P.follows .mixedOrders = true) (hB : Region.lexTailB .any l.toArray k = true)
    (h : wpStill P l.toArray { w with drawn := w.drawn + 1 } (fun a' => wpListIn Fence.wide n P l.toArray Q (l.drop k) a' { w with drawn := w.drawn + 1 }) (l.take k) a) : (Code.region id l.toArray true).wpIn Fence.wide n P Q a w := by
  simp only [Region.lexTailB, Bool.and_eq_true, decide_eq_true_eq] at hB
  obtain ⟨⟨⟨⟨hsel, hn⟩, hs⟩, hc⟩, hlex⟩ := hB
  have hn' : k < l.length := by simpa using hn
  have htl : (l.take k).length = k := by simp; omega
  have hdl : (l.drop k).length = l.toArray.size - k := by simp
  have inv0 : HeadInv .any l.toArray k (Array.replicate l.toArray.size false) :=
    ⟨by simp, fun j oj _ hl => (by rw [getD_replicate_false] at hl; cases hl), fun t _ ht => getD_in (by simpa using ht) (getD_replicate_false _ _)⟩
  have H := wpAnyL_lex (md := .any) (g := l.toArray.size - k) hsel hs hc hn (l.take k) 0 _ a (fun j hj => by
    have hj' : j < k := by rw [htl] at hj; exact hj
    simp [hj']) (by simpa using htl) inv0 (by rw [htl]; exact hlex) h
  refine wpIn_region_any hm ?_
  have := wideAny_of_head (n := n) (Q' := Q) (g := l.toArray.size - k) (fun listed a' hL => by
    have := wideAny_of_seq (n := n) (md := .any) (Q' := Q) (l.drop k) k listed a' { w with drawn := w.drawn + 1 } (fun j => by simp [List.getElem?_drop]) (by rw [hdl]; exact hL.1) hL.2
    rwa [hdl] at this) _ _ _ H
  rw [htl, show k + (l.toArray.size - k) = l.toArray.size by omega] at this
  exact this

variable {F : Fence}
/-- What is left stands in a forced order. -/
theorem anyIn_of_seq {Q' : Exit → Act → World → Prop} : ∀ (l : List Oper) (k : Nat) (listed : Array Bool) (a : Act) (w : World), (∀ j, l[j]? = ops[k + j]?) →
    Region.seqB md ops l.length k listed = true → wpListIn F n P ops Q' l a w → wpAnyIn F n P md ops Q' l.length listed a w
  | [], _, _, _, _, _, hB, h => ⟨by simpa [Region.seqB] using hB, h⟩
  | o :: l, k, listed, a, w, hl, hB, h => by
    have h0 : ops[k]? = some o := by simpa using (hl 0).symm
    simp only [List.length_cons, Region.seqB, Bool.and_eq_true, decide_eq_true_eq] at hB
    refine ⟨fun h1 => (by rw [hB.1] at h1; cases h1), fun i hi => ?_⟩
    rw [hB.1] at hi
    have hik : i = k := by simpa using hi
    subst hik
    have hw : wpOpIn F n P ops Q' i (wpListIn F n P ops Q' l) a w := by unfold wpOpIn; simp only [h0]; exact h
    exact wpOpIn_mono (fun a' w' h' => anyIn_of_seq l (i + 1) _ a' w' (fun j => by have := hl (j + 1); simpa [Nat.add_assoc, Nat.add_comm 1 j] using this) hB.2 h') hw
theorem anyIn_tail {Q' : Exit → Act → World → Prop} {l : List Oper} {f : Nat} (k : Nat) (hf : f = l.length - k) {listed : Array Bool} {a : Act} {w : World} (hB : Region.seqB md l.toArray f k listed = true)
    (h : wpListIn F n P l.toArray Q' (l.drop k) a w) : wpAnyIn F n P md l.toArray Q' f listed a w := by
  subst hf
  have hd : (l.drop k).length = l.length - k := by simp
  rw [← hd] at hB ⊢
  exact anyIn_of_seq (l.drop k) k listed a w (fun j => by simp [List.getElem?_drop]) hB h
end
end Go.Proofs.YtngfbpmabdmkeaaGreatDoor
namespace Go.Proofs.YtngfbpmabdmkeaaGreatDoor
open Go Go.RowKit Go.Shelf

attribute [local go_sem] Oper.semAt_some

def exD : Ex := .mk 0 0 0 [] [] 0
/-- A row of expressions, below n₀. -/
def KidsAt (n₀ : Nat) (W : World) (p : Option Addr) (m : Nat) (xs : Nat → Ex) (us : Nat → Value) : Prop :=
  ∀ i, i < m → ∃ g, p = some ⟨g, 0, none⟩ ∧ g < n₀ ∧ W.cell? ⟨g, i * 6, none⟩ = some (.int .i64 (xs i).k) ∧ W.cell? ⟨g, i * 6 + 1, none⟩ = some (.int .i64 (xs i).op) ∧ W.cell? ⟨g, i * 6 + 2, none⟩ = some (.int .i64 (xs i).n) ∧
    W.cell? ⟨g, i * 6 + 3, none⟩ = some (.string (bstr (xs i).nm)) ∧ W.cell? ⟨g, i * 6 + 4, none⟩ = some (us i) ∧ W.cell? ⟨g, i * 6 + 5, none⟩ = some (.int .i64 (xs i).a)
theorem KidsAt.below {n₀ : Nat} {A B : World} {p : Option Addr} {m : Nat} {xs : Nat → Ex} {us : Nat → Value} (h : KidsAt n₀ A p m xs us) (k : Below n₀ A B) : KidsAt n₀ B p m xs us := fun i hi => by
  obtain ⟨g, h1, h2, c0, c1, c2, c3, c4, c5⟩ := h i hi
  exact ⟨g, h1, h2, (k.cell (p := ⟨g, _, none⟩) h2).trans c0, (k.cell (p := ⟨g, _, none⟩) h2).trans c1, (k.cell (p := ⟨g, _, none⟩) h2).trans c2, (k.cell (p := ⟨g, _, none⟩) h2).trans c3, (k.cell (p := ⟨g, _, none⟩) h2).trans c4, (k.cell (p := ⟨g, _, none⟩) h2).trans c5⟩
theorem KidsAt.mono {n₀ n₁ : Nat} {A : World} {p : Option Addr} {m : Nat} {xs : Nat → Ex} {us : Nat → Value} (h : KidsAt n₀ A p m xs us) (k : n₀ ≤ n₁) : KidsAt n₁ A p m xs us := fun i hi => by
  obtain ⟨g, h1, h2, c⟩ := h i hi
  exact ⟨g, h1, by omega, c⟩
/-- An expression's kids, each by its number. -/
theorem IsEx.kids {lo : Nat} {W : World} {e : Ex} {p : Option Addr} {m c : Nat} (h : IsEx lo W e (.slice p m c)) (hm : m = e.ks.length) : ∃ (X : Nat → Ex) (pu : Nat → Option Addr) (cu : Nat → Nat), (∀ i, X i = e.ks.getD i exD) ∧
    KidsAt W.heap.size W p m X (fun i => .slice (pu i) (X i).ks.length (cu i)) ∧ ∀ i, i < m → IsEx lo W (X i) (.slice (pu i) (X i).ks.length (cu i)) := by
  have key : ∀ i, ∃ pc : Option Addr × Nat, ∀ x, e.ks[i]? = some x → IsEx lo W x (.slice pc.1 x.ks.length pc.2) ∧ ∃ g, p = some ⟨g, 0, none⟩ ∧ g < W.heap.size ∧ W.cell? ⟨g, i * 6, none⟩ = some (.int .i64 x.k) ∧ W.cell? ⟨g, i * 6 + 1, none⟩ = some (.int .i64 x.op) ∧ W.cell? ⟨g, i * 6 + 2, none⟩ = some (.int .i64 x.n) ∧
      W.cell? ⟨g, i * 6 + 3, none⟩ = some (.string (bstr x.nm)) ∧ W.cell? ⟨g, i * 6 + 4, none⟩ = some (.slice pc.1 x.ks.length pc.2) ∧ W.cell? ⟨g, i * 6 + 5, none⟩ = some (.int .i64 x.a) := fun i => by
    cases hi : e.ks[i]? with
    | none => exact ⟨(none, 0), fun x hx => by cases hx⟩
    | some y =>
      obtain ⟨g, cap, u, hp, -, hg, hyx, d⟩ := h.kid hi
      obtain ⟨pa, ca, rfl⟩ := hyx.form
      refine ⟨(pa, ca), fun x hx => ?_⟩
      cases hx
      have hp2 : p = some ⟨g, 0, none⟩ := by simp at hp; exact hp.1
      exact ⟨hyx, g, hp2, hg, d⟩
  have hx : ∀ i, i < m → e.ks[i]? = some (e.ks.getD i exD) := fun i hi => by
    rw [List.getD_eq_getElem?_getD, List.getElem?_eq_getElem (by omega)]
    rfl
  exact ⟨fun i => e.ks.getD i exD, fun i => (Classical.choose (key i)).1, fun i => (Classical.choose (key i)).2, fun _ => rfl, fun i hi => ((Classical.choose_spec (key i)) _ (hx i hi)).2, fun i hi => ((Classical.choose_spec (key i)) _ (hx i hi)).1⟩

theorem fin_take {m i : Nat} (hi : i < m) : (List.finRange m).take (i + 1) = (List.finRange m).take i ++ [⟨i, hi⟩] := by
  rw [List.take_add_one, List.getElem?_eq_getElem (by simpa using hi)]
  simp

set_option maxRecDepth 100000 in
set_option maxHeartbeats 1000000 in
theorem pairs1_in (n : Nat) (l bA bB n₀ m : Nat) (hm9 : m < 1000000000) (pa pb : Option Addr) (ca cb : Nat) (xs ys : Nat → Ex) (us vs : Nat → Value) (J Jx : List (_root_.Fin m) → World → Prop) (hJd : ∀ pre A, J pre A → J pre A.drew)
    (hY : ∀ pre (x : _root_.Fin m) W, J pre W → pre.length < m → YieldAt Fence.wide (n - 1) Tryz.prog l #[exVal (xs x) (us x), exVal (ys x) (vs x)] W fun e W' =>
      (e = .returned (.bool true) ∧ J (pre ++ [x]) W' ∧ Below n₀ W W') ∨ (e = .returned (.bool false) ∧ Jx (pre ++ [x]) W'))
    (W : World) (hbA : bA < n₀) (hbB : bB < n₀) (hA : W.cell? ⟨bA, 0, none⟩ = some (.slice pa m ca)) (hB : W.cell? ⟨bB, 0, none⟩ = some (.slice pb m cb)) (HA : Hid (KidsAt n₀ W pa m xs us)) (HB : Hid (KidsAt n₀ W pb m ys vs)) (h0 : J [] W) :
    CallsIn Fence.wide n Tryz.prog 81 #[.func (.yield l) #[] #[], .pointer (some ⟨bA, 0, none⟩), .pointer (some ⟨bB, 0, none⟩)] W fun e W' => (∃ v, e = .returned v) ∧
      ((∃ zs, zs = List.finRange m ∧ J zs W') ∨ (∃ pre, True ∧ Jx pre W')) := by
  have HY := Lib.hid hY
  clear hY
  refine callsIn_of_wp Tryz.func81 rfl trivial ?_ rfl
  simp only [Tryz.ntmps81, List.size_toArray, List.length_cons, List.length_nil, Nat.reduceAdd, Nat.reduceSub, Array.replicate_succ, Array.replicate_zero, List.push_toArray, List.append_toArray, List.nil_append, List.cons_append]
  gi_wp2
  gi_loopw [7] (fun iv wr => ∃ i : Nat, iv = .int .i64 i ∧ i ≤ m ∧ J ((List.finRange m).take i) wr ∧ Below n₀ W wr) (fun iv _ => m - (intOf iv).toNat)
  case atStart => exact ⟨0, rfl, Nat.zero_le _, by simpa using h0, Below.refl _ _⟩
  case round =>
    obtain ⟨i, rfl, hi, hJ, hb⟩ := hrel
    by_cases hin : i < m
    · have hin2 : (i : Int) < m := by omega
      have hA2 : wr.cell? ⟨bA, 0, none⟩ = some (.slice pa m ca) := (hb.cell (p := ⟨bA, 0, none⟩) hbA).trans hA
      have hB2 : wr.cell? ⟨bB, 0, none⟩ = some (.slice pb m cb) := (hb.cell (p := ⟨bB, 0, none⟩) hbB).trans hB
      obtain ⟨g, rfl, hg, c0, c1, c2, c3, c4, c5⟩ := (HA.out.below hb) i hin
      obtain ⟨g2, rfl, hg2, e0, e1, e2, e3, e4, e5⟩ := (HB.out.below hb) i hin
      obtain ⟨fn, tmps, assign, body, hy, hR⟩ := HY.out _ ⟨i, hin⟩ wr.drew (hJd _ _ hJ) (by simp; omega)
      dsimp only at hy
      rw [← fin_take hin] at hR
      have HR := Lib.hid hR
      clear hR
      gi_wp2
      refine wide_region_still_tail 9 (by kernel_rfl) (by kernel_rfl) ?_
      simp only [List.take_succ_cons, List.take_zero, List.drop_succ_cons, List.drop_zero]
      change wpStill _ _ (World.drew _) _ _ _
      repeat still_step
      refine wpStill_nil ?_
      gi_wp2_with ((try refine ⟨fun h => (by cases h), ?_⟩); refine HR.out.mono ?_; rintro e W3 (⟨rfl, hJ3, hk3⟩ | ⟨rfl, hx3⟩))
      · have hk4 : Below n₀ W W3 := hb.trans (((Below.refl n₀ wr).drew).trans hk3)
        exact ⟨⟨i + 1, by simp, by omega, hJ3, hk4⟩, by simp [intOf]; omega⟩
      · refine bodyPost_ret (results_none rfl _ _ _) rfl ?_
        exact ⟨⟨_, rfl⟩, .inr ⟨_, trivial, hx3⟩⟩
    · obtain rfl : i = m := by omega
      gi_wp2
      go_end0
      exact ⟨⟨_, rfl⟩, .inl ⟨_, rfl, by (rw [List.take_of_length_le (by simp)] at hJ; exact hJ)⟩⟩
end Go.Proofs.YtngfbpmabdmkeaaGreatDoor
namespace Go.Proofs.YtngfbpmabdmkeaaGreatDoor
open Go Go.RowKit Go.Shelf

attribute [local go_sem] Oper.semAt_some

theorem kpairs_in (n : Nat) (p q : Option Addr) (m m' c c' : Nat) (w : World) : CallsIn Fence.wide n Tryz.prog 51 #[.slice p m c, .slice q m' c'] w fun e w' =>
    e = .returned (.func (.func 81) #[] #[.pointer (some ⟨w.heap.size, 0, none⟩), .pointer (some ⟨w.heap.size + 1, 0, none⟩)]) ∧ w' = (w.alloc (.cells #[.slice p m c] 23)).alloc (.cells #[.slice q m' c'] 23) := by
  refine callsIn_of_wp Tryz.func51 rfl trivial ?_ rfl
  simp only [Tryz.ntmps51, List.size_toArray, List.length_cons, List.length_nil, Nat.reduceAdd, Nat.reduceSub, Array.replicate_succ, Array.replicate_zero, List.push_toArray, List.append_toArray, List.nil_append, List.cons_append]
  gi_wp2
  go_ret
  exact ⟨rfl, rfl⟩

theorem kpairs_stops (n bA bB m : Nat) (hm9 : m < 1000000000) (pa pb : Option Addr) (ca cb : Nat) (xs ys : Nat → Ex) (us vs : Nat → Value) (w : World) (hbA : bA < w.heap.size) (hbB : bB < w.heap.size)
    (hA : w.cell? ⟨bA, 0, none⟩ = some (.slice pa m ca)) (hB : w.cell? ⟨bB, 0, none⟩ = some (.slice pb m cb)) (HA : KidsAt w.heap.size w pa m xs us) (HB : KidsAt w.heap.size w pb m ys vs) :
    SeqStopsK Fence.wide n Tryz.prog 81 #[.pointer (some ⟨bA, 0, none⟩), .pointer (some ⟨bB, 0, none⟩)] (fun x : _root_.Fin m => #[exVal (xs x) (us x), exVal (ys x) (vs x)]) (Below w.heap.size) (fun zs => zs = List.finRange m) (fun _ => True) m w := fun l J Jx W hW hJ _ hY h0 =>
  pairs1_in n l bA bB w.heap.size m hm9 pa pb ca cb xs ys us vs J Jx (fun pre A h => hJ pre A A.drew none h ⟨rfl, rfl, rfl, Nat.le_refl _, fun _ _ _ => rfl⟩ (fun r e => by cases e)) hY W hbA hbB ((hW.cell (p := ⟨bA, 0, none⟩) hbA).trans hA) ((hW.cell (p := ⟨bB, 0, none⟩) hbB).trans hB) (Lib.hid (HA.below hW)) (Lib.hid (HB.below hW)) h0

theorem keepsFrom_below {B : Nat} {W W' : World} (h : Below W.heap.size W W') : KeepsFrom B W W' := ⟨h.size, fun k o _ hk _ => (h.block k (Array.getElem?_eq_some_iff.1 hk).1).trans hk⟩
/-- All pairs so far are the same. -/
def AllEqv {m : Nat} (xs ys : Nat → Ex) (pre : List (_root_.Fin m)) : Prop := ∀ i ∈ pre, (xs i).eqv (ys i) = true
theorem eqvL_all : ∀ (l q : List Ex), l.length = q.length → (Ex.eqvL l q = true ↔ ∀ i, i < l.length → (l.getD i exD).eqv (q.getD i exD) = true)
  | [], [], _ => by simp [Ex.eqvL]
  | x :: l, y :: q, h => by
    have ih := eqvL_all l q (by simpa using h)
    simp only [Ex.eqvL, Bool.and_eq_true, ih]
    constructor
    · rintro ⟨h1, h2⟩ i hi
      cases i with
      | zero => simpa using h1
      | succ i => simpa using h2 i (by simpa using hi)
    · intro h1
      exact ⟨by simpa using h1 0 (by simp), fun i hi => by simpa using h1 (i + 1) (by simpa using hi)⟩
  | [], _ :: _, h => by simp at h
  | _ :: _, [], h => by simp at h

theorem results_cell1 {n : Nat} {X : World} {fn : Func} {p : Tmp} {T : TypeId} {v : Value} (hfn : fn.results = #[.cell p T]) (tmps : Array Value) (hp : tmps.getD p undef = .pointer (some ⟨n, 0, none⟩)) (hT : T = 4) (h : X.cell? ⟨n, 0, none⟩ = some v) : (results fn tmps).run Tryz.prog X = .ok v X := by
  subst hT
  have hp' : tmps[p]?.getD undef = .pointer (some ⟨n, 0, none⟩) := by simpa using hp
  simp [results, hfn, hp', go_sem, h]

theorem box_cell (W : World) (v : Value) (T b : Nat) (hb : b = W.heap.size) : (W.alloc (.cells #[v] T)).cell? ⟨b, 0, none⟩ = some v := by
  subst hb
  exact (Boxed.new W T v).cell
theorem box_frz (W : World) (v : Value) (T b : Nat) (hb : b = W.heap.size) : (W.alloc (.cells #[v] T)).frozen? ⟨b, 0, none⟩ = false := by
  subst hb
  exact (Boxed.new W T v).frozen
theorem frz_old {W : World} {b : Nat} (h : W.frozen? ⟨b, 0, none⟩ = false) (hb : b < W.heap.size) (o : Obj) : (W.alloc o).frozen? ⟨b, 0, none⟩ = false := (World.frozen?_of_block (a := ⟨b, 0, none⟩) (Below.heap_alloc W o b hb)).trans h
theorem act_lit (t0 t1 t2 t3 t4 t5 t6 t7 t8 t9 t10 t11 t12 t13 t14 t15 t16 t17 t18 t19 t20 t21 t22 t23 t24 t25 t26 t27 t28 t29 t30 t31 t32 t33 t34 t35 t36 t37 t38 t39 t40 t41 t42 t43 t44 t45 t46 t47 t48 t49 t50 t51 t52 : Value) (d : List Deferred) : ∃ u : Nat → Value, ({ tmps := #[t0, t1, t2, t3, t4, t5, t6, t7, t8, t9, t10, t11, t12, t13, t14, t15, t16, t17, t18, t19, t20, t21, t22, t23, t24, t25, t26, t27, t28, t29, t30, t31, t32, t33, t34, t35, t36, t37, t38, t39, t40, t41, t42, t43, t44, t45, t46, t47, t48, t49, t50, t51, t52], defers := d } : Act) = { tmps := #[u 0, u 1, u 2, u 3, t4, t5, t6, u 7, u 8, u 9, u 10, u 11, u 12, u 13, u 14, u 15, u 16, u 17, u 18, u 19, u 20, u 21, u 22, u 23, u 24, u 25, u 26, u 27, u 28, u 29, u 30, u 31, u 32, u 33, u 34, u 35, u 36, u 37, u 38, u 39, u 40, u 41, u 42, u 43, u 44, u 45, u 46, u 47, u 48, u 49, u 50, u 51, u 52], defers := d } := ⟨fun k => (#[t0, t1, t2, t3, t4, t5, t6, t7, t8, t9, t10, t11, t12, t13, t14, t15, t16, t17, t18, t19, t20, t21, t22, t23, t24, t25, t26, t27, t28, t29, t30, t31, t32, t33, t34, t35, t36, t37, t38, t39, t40, t41, t42, t43, t44, t45, t46, t47, t48, t49, t50, t51, t52] : Array Value).getD k undef, rfl⟩
theorem blk_own (n : Nat) (v0 v1 v2 v3 v4 v5 : Value) {W X : World} {row : Option Nat} (h : Blk W n v0 v1 v2 v3 v4 v5) (hg : W.grownBy X row) (hr : ∀ r, row = some r → ∃ o : Obj, W.heap[r]? = some o ∧ o.isCells = false) : Blk X n v0 v1 v2 v3 v4 v5 :=
  (World.grownBy.block hg n (Array.getElem?_eq_some_iff.1 h).1 (fun e => by
    obtain ⟨o, h1, h2⟩ := hr n e.symm
    have h3 : W.heap[n]? = some _ := h
    rw [h3] at h1
    cases h1
    cases h2)).trans h
/-- What a body that ended with one result cell leaves. -/
theorem leave_plain {fn : Func} {a : Act} {w : World} {R : Ending → World → Prop} {v : Value} (hd : a.defers = []) (hr : (results fn a.tmps).run Tryz.prog w = .ok v w) (h : R (.returned v) w) {F : Fence} {n : Nat} : bodyPostM F n Tryz.prog fn R .ret a w := by
  show LeavesInM F n Tryz.prog fn a.tmps R a.defers .returning w
  rw [hd]
  exact ⟨_, hr, h⟩

/-- What the call is handed, and what it says. -/
def SameEGoal (N : Nat) : Prop := ∀ (x y : Ex) (p q : Option Addr) (c c' : Nat) (w : World), x.cnt < N ∧ x.cnt < 1000000000 → IsEx 0 w x (.slice p x.ks.length c) → IsEx 0 w y (.slice q y.ks.length c') →
  Calls Tryz.prog 24 #[.agg #[.int .i64 x.k, .int .i64 x.op, .int .i64 x.n, .string (bstr x.nm), .slice p x.ks.length c, .int .i64 x.a], .agg #[.int .i64 y.k, .int .i64 y.op, .int .i64 y.n, .string (bstr y.nm), .slice q y.ks.length c', .int .i64 y.a]] w fun e w' => e = .returned (.bool (x.eqv y)) ∧ Below w.heap.size w w'

set_option maxRecDepth 100000 in
set_option maxHeartbeats 4000000 in
theorem same_step (N : Nat) (IH : Hid (SameEGoal N)) : SameEGoal (N + 1) := by
  intro x y p q cp cq w hN hx hy
  obtain ⟨R, hR⟩ : ∃ R, R = x.eqv y := ⟨_, rfl⟩
  rw [← hR]
  rw [eqv_parts] at hR
  have HR := Lib.hid hR
  have HX := Lib.hid hx
  have HY := Lib.hid hy
  have HN := Lib.hid hN
  have hks := ks_lt x
  have hn9 : x.ks.length < 1000000000 := by omega
  clear hx hy hN hks
  by_cases hk : x.k = y.k
  case neg =>
    have hb : (x.k == y.k) = false := by simpa using hk
    have hb2 : (x.k != y.k) = true := by (show (! _) = _; rw [hb]; rfl)
    have hF : R = false := by (rw [HR.out]; simp [hb])
    subst hF
    clear hk hR
    refine (callsIn_wide (n := 9)).1 ?_
    refine callsIn_of_wp_marks Tryz.func24 rfl trivial ?_ rfl
    simp only [Tryz.ntmps24, List.size_toArray, List.length_cons, List.length_nil, Nat.reduceAdd, Nat.reduceSub, Array.replicate_succ, Array.replicate_zero, List.push_toArray, List.append_toArray, List.nil_append, List.cons_append]
    gi_wp2
    exact leave_plain rfl (results_cell1 (n := w.heap.size + 1 + 1) Tryz.results24 _ rfl rfl (box_cell _ _ _ _ (by simp))) ⟨rfl, by (refine Fr.below ?_; (repeat (first | (with_reducible exact Fr.refl _ _) | (with_reducible refine Fr.alloc ?_ _) | (with_reducible refine Fr.drewN ?_ _) | (with_reducible refine Fr.drew ?_) | (with_reducible refine Fr.set ?_ ?_ _ _; rotate_left; first | exact .inl rfl | (right; simp; done) | (right; simp; omega) | (right; omega)) | (with_reducible refine Fr.step ?_ (by assumption)) | (with_reducible refine Fr.stepB ?_ (by assumption)))))⟩
  have hbk : (x.k == y.k) = true := by simpa using hk
  have hck : (x.k != y.k) = false := by (show (! _) = _; rw [hbk]; rfl)
  by_cases ho : x.op = y.op
  case neg =>
    have hb : (x.op == y.op) = false := by simpa using ho
    have hb2 : (x.op != y.op) = true := by (show (! _) = _; rw [hb]; rfl)
    have hF : R = false := by (rw [HR.out]; simp [hb])
    subst hF
    clear ho hR
    refine (callsIn_wide (n := 9)).1 ?_
    refine callsIn_of_wp_marks Tryz.func24 rfl trivial ?_ rfl
    simp only [Tryz.ntmps24, List.size_toArray, List.length_cons, List.length_nil, Nat.reduceAdd, Nat.reduceSub, Array.replicate_succ, Array.replicate_zero, List.push_toArray, List.append_toArray, List.nil_append, List.cons_append]
    gi_wp2
    exact leave_plain rfl (results_cell1 (n := w.heap.size + 1 + 1) Tryz.results24 _ rfl rfl (box_cell _ _ _ _ (by simp))) ⟨rfl, by (refine Fr.below ?_; (repeat (first | (with_reducible exact Fr.refl _ _) | (with_reducible refine Fr.alloc ?_ _) | (with_reducible refine Fr.drewN ?_ _) | (with_reducible refine Fr.drew ?_) | (with_reducible refine Fr.set ?_ ?_ _ _; rotate_left; first | exact .inl rfl | (right; simp; done) | (right; simp; omega) | (right; omega)) | (with_reducible refine Fr.step ?_ (by assumption)) | (with_reducible refine Fr.stepB ?_ (by assumption)))))⟩
  have hbo : (x.op == y.op) = true := by simpa using ho
  have hco : (x.op != y.op) = false := by (show (! _) = _; rw [hbo]; rfl)
  by_cases hn : x.n = y.n
  case neg =>
    have hb : (x.n == y.n) = false := by simpa using hn
    have hb2 : (x.n != y.n) = true := by (show (! _) = _; rw [hb]; rfl)
    have hF : R = false := by (rw [HR.out]; simp [hb])
    subst hF
    clear hn hR
    refine (callsIn_wide (n := 9)).1 ?_
    refine callsIn_of_wp_marks Tryz.func24 rfl trivial ?_ rfl
    simp only [Tryz.ntmps24, List.size_toArray, List.length_cons, List.length_nil, Nat.reduceAdd, Nat.reduceSub, Array.replicate_succ, Array.replicate_zero, List.push_toArray, List.append_toArray, List.nil_append, List.cons_append]
    gi_wp2
    exact leave_plain rfl (results_cell1 (n := w.heap.size + 1 + 1) Tryz.results24 _ rfl rfl (box_cell _ _ _ _ (by simp))) ⟨rfl, by (refine Fr.below ?_; (repeat (first | (with_reducible exact Fr.refl _ _) | (with_reducible refine Fr.alloc ?_ _) | (with_reducible refine Fr.drewN ?_ _) | (with_reducible refine Fr.drew ?_) | (with_reducible refine Fr.set ?_ ?_ _ _; rotate_left; first | exact .inl rfl | (right; simp; done) | (right; simp; omega) | (right; omega)) | (with_reducible refine Fr.step ?_ (by assumption)) | (with_reducible refine Fr.stepB ?_ (by assumption)))))⟩
  have hbn : (x.n == y.n) = true := by simpa using hn
  have hcn : (x.n != y.n) = false := by (show (! _) = _; rw [hbn]; rfl)
  by_cases ht : x.nm = y.nm
  case neg =>
    have hb := bstr_ne ht
    have hb2 : ((bstr x.nm).toList != (bstr y.nm).toList) = true := by (show (! _) = _; rw [hb]; rfl)
    have hF : R = false := by (rw [HR.out]; simp [ht])
    subst hF
    clear ht hk ho hn hR
    refine (callsIn_wide (n := 9)).1 ?_
    refine callsIn_of_wp_marks Tryz.func24 rfl trivial ?_ rfl
    simp only [Tryz.ntmps24, List.size_toArray, List.length_cons, List.length_nil, Nat.reduceAdd, Nat.reduceSub, Array.replicate_succ, Array.replicate_zero, List.push_toArray, List.append_toArray, List.nil_append, List.cons_append]
    gi_wp2
    exact leave_plain rfl (results_cell1 (n := w.heap.size + 1 + 1) Tryz.results24 _ rfl rfl (box_cell _ _ _ _ (by simp))) ⟨rfl, by (refine Fr.below ?_; (repeat (first | (with_reducible exact Fr.refl _ _) | (with_reducible refine Fr.alloc ?_ _) | (with_reducible refine Fr.drewN ?_ _) | (with_reducible refine Fr.drew ?_) | (with_reducible refine Fr.set ?_ ?_ _ _; rotate_left; first | exact .inl rfl | (right; simp; done) | (right; simp; omega) | (right; omega)) | (with_reducible refine Fr.step ?_ (by assumption)) | (with_reducible refine Fr.stepB ?_ (by assumption)))))⟩
  have hbt := bstr_same ht
  have hct : ((bstr x.nm).toList != (bstr y.nm).toList) = false := by (show (! _) = _; rw [hbt]; rfl)
  by_cases hl : x.ks.length = y.ks.length
  case neg =>
    have hb : ((x.ks.length : Int) == (y.ks.length : Int)) = false := by (simp; omega)
    have hb2 : ((x.ks.length : Int) != (y.ks.length : Int)) = true := by (show (! _) = _; rw [hb]; rfl)
    have hF : R = false := by (rw [HR.out]; simp [eqvL_len _ _ hl])
    subst hF
    clear ht hk ho hn hR hl
    refine (callsIn_wide (n := 9)).1 ?_
    refine callsIn_of_wp_marks Tryz.func24 rfl trivial ?_ rfl
    simp only [Tryz.ntmps24, List.size_toArray, List.length_cons, List.length_nil, Nat.reduceAdd, Nat.reduceSub, Array.replicate_succ, Array.replicate_zero, List.push_toArray, List.append_toArray, List.nil_append, List.cons_append]
    gi_wp2
    exact leave_plain rfl (results_cell1 (n := w.heap.size + 1 + 1) Tryz.results24 _ rfl rfl (box_cell _ _ _ _ (by simp))) ⟨rfl, by (refine Fr.below ?_; (repeat (first | (with_reducible exact Fr.refl _ _) | (with_reducible refine Fr.alloc ?_ _) | (with_reducible refine Fr.drewN ?_ _) | (with_reducible refine Fr.drew ?_) | (with_reducible refine Fr.set ?_ ?_ _ _; rotate_left; first | exact .inl rfl | (right; simp; done) | (right; simp; omega) | (right; omega)) | (with_reducible refine Fr.step ?_ (by assumption)) | (with_reducible refine Fr.stepB ?_ (by assumption)))))⟩
  obtain ⟨n, hn'⟩ : ∃ n, n = x.ks.length := ⟨_, rfl⟩
  have hL1 : Hid (x.ks.length = n) := Lib.hid hn'.symm
  have hL2 : Hid (y.ks.length = n) := Lib.hid (hl.symm.trans hn'.symm)
  have hT : Hid (R = Ex.eqvL x.ks y.ks) := Lib.hid (by rw [HR.out]; simp [hk, ho, hn, ht])
  replace HX : Hid (IsEx 0 w x (.slice p n cp)) := Lib.hid (by rw [hn']; exact HX.out)
  replace HY : Hid (IsEx 0 w y (.slice q n cq)) := Lib.hid (by rw [hn', hl]; exact HY.out)
  rw [← hl, ← hn']
  rw [← hn'] at hn9
  clear hR hk ho hn ht hl hn' HR
  refine (callsIn_wide (n := 9)).1 ?_
  refine callsIn_of_wp_marks Tryz.func24 rfl trivial ?_ rfl
  simp only [Tryz.ntmps24, List.size_toArray, List.length_cons, List.length_nil, Nat.reduceAdd, Nat.reduceSub, Array.replicate_succ, Array.replicate_zero, List.push_toArray, List.append_toArray, List.nil_append, List.cons_append]
  gi_wp2_with (refine ⟨trivial, ?_⟩; gi_at_call 51; refine (kpairs_in _ _ _ _ _ _ _ _).mono ?_; rintro e w' ⟨rfl, rfl⟩)
  obtain ⟨XX, pu, cu, hXX, hKX, hUX⟩ := HX.out.kids hL1.out.symm
  obtain ⟨YY, pv, cv, hYY, hKY, hUY⟩ := HY.out.kids hL2.out.symm
  have hbR := box_cell ((w.alloc (.cells #[.int .i64 x.k, .int .i64 x.op, .int .i64 x.n, .string (bstr x.nm), .slice p n cp, .int .i64 x.a] 25)).alloc (.cells #[.int .i64 y.k, .int .i64 y.op, .int .i64 y.n, .string (bstr y.nm), .slice q n cq, .int .i64 y.a] 25)) (.bool false) 4 (w.heap.size + 1 + 1) (by simp)
  have hfR : (((w.alloc (.cells #[.int .i64 x.k, .int .i64 x.op, .int .i64 x.n, .string (bstr x.nm), .slice p n cp, .int .i64 x.a] 25)).alloc (.cells #[.int .i64 y.k, .int .i64 y.op, .int .i64 y.n, .string (bstr y.nm), .slice q n cq, .int .i64 y.a] 25)).alloc (.cells #[.bool false] 4)).frozen? ⟨w.heap.size + 1 + 1, 0, none⟩ = false := box_frz _ _ _ _ (by simp)
  have hbA := box_cell (((w.alloc (.cells #[.int .i64 x.k, .int .i64 x.op, .int .i64 x.n, .string (bstr x.nm), .slice p n cp, .int .i64 x.a] 25)).alloc (.cells #[.int .i64 y.k, .int .i64 y.op, .int .i64 y.n, .string (bstr y.nm), .slice q n cq, .int .i64 y.a] 25)).alloc (.cells #[.bool false] 4)) (.slice p n cp) 23 (w.heap.size + 1 + 1 + 1) (by simp)
  have hbB := box_cell ((((w.alloc (.cells #[.int .i64 x.k, .int .i64 x.op, .int .i64 x.n, .string (bstr x.nm), .slice p n cp, .int .i64 x.a] 25)).alloc (.cells #[.int .i64 y.k, .int .i64 y.op, .int .i64 y.n, .string (bstr y.nm), .slice q n cq, .int .i64 y.a] 25)).alloc (.cells #[.bool false] 4)).alloc (.cells #[.slice p n cp] 23)) (.slice q n cq) 23 (w.heap.size + 1 + 1 + 1 + 1) (by simp)
  obtain ⟨W0, hW0⟩ : ∃ W0, W0 = ((((w.alloc (.cells #[.int .i64 x.k, .int .i64 x.op, .int .i64 x.n, .string (bstr x.nm), .slice p n cp, .int .i64 x.a] 25)).alloc (.cells #[.int .i64 y.k, .int .i64 y.op, .int .i64 y.n, .string (bstr y.nm), .slice q n cq, .int .i64 y.a] 25)).alloc (.cells #[.bool false] 4)).alloc (.cells #[.slice p n cp] 23)).alloc (.cells #[.slice q n cq] 23) := ⟨_, rfl⟩
  have hsz : W0.heap.size = w.heap.size + 5 := by (rw [hW0]; simp)
  have hB0 : Below w.heap.size w W0 := by (rw [hW0]; (refine Fr.below ?_; (repeat (first | (with_reducible exact Fr.refl _ _) | (with_reducible refine Fr.alloc ?_ _) | (with_reducible refine Fr.drewN ?_ _) | (with_reducible refine Fr.drew ?_) | (with_reducible refine Fr.set ?_ ?_ _ _; rotate_left; first | exact .inl rfl | (right; simp; done) | (right; simp; omega) | (right; omega)) | (with_reducible refine Fr.step ?_ (by assumption)) | (with_reducible refine Fr.stepB ?_ (by assumption))))))
  have cR : W0.cell? ⟨w.heap.size + 1 + 1, 0, none⟩ = some (.bool false) := by (rw [hW0]; exact cell_old (cell_old hbR _) _)
  have cA : W0.cell? ⟨w.heap.size + 1 + 1 + 1, 0, none⟩ = some (.slice p n cp) := by (rw [hW0]; exact cell_old hbA _)
  have cB : W0.cell? ⟨w.heap.size + 1 + 1 + 1 + 1, 0, none⟩ = some (.slice q n cq) := by (rw [hW0]; exact hbB)
  have fR : W0.frozen? ⟨w.heap.size + 1 + 1, 0, none⟩ = false := by (rw [hW0]; exact frz_old (frz_old hfR (by simp) _) (by simp) _)
  try simp only [World.size_alloc]
  rw [← hW0]
  clear hW0 hbA hbR hbB hfR
  have hKX0 : KidsAt W0.heap.size W0 p n XX (fun i => .slice (pu i) (XX i).ks.length (cu i)) := (hKX.below hB0).mono (by omega)
  have hKY0 : KidsAt W0.heap.size W0 q n YY (fun i => .slice (pv i) (YY i).ks.length (cv i)) := (hKY.below hB0).mono (by omega)
  replace hXX := Lib.hid hXX
  replace hYY := Lib.hid hYY
  refine wpIn_rangeFunc_ownH rfl (by decide) (gf := 81) (lb := #[.pointer (some ⟨w.heap.size + 1 + 1 + 1, 0, none⟩), .pointer (some ⟨w.heap.size + 1 + 1 + 1 + 1, 0, none⟩)]) rfl trivial (enters_of Tryz.func81 (by kernel_rfl) rfl)
    (kpairs_stops 8 (w.heap.size + 1 + 1 + 1) (w.heap.size + 1 + 1 + 1 + 1) n hn9 p q cp cq XX YY (fun i => .slice (pu i) (XX i).ks.length (cu i)) (fun i => .slice (pv i) (YY i).ks.length (cv i)) W0 (by omega) (by omega) cA cB hKX0 hKY0) belowK_t (belowK_b (Nat.le_refl _)) (Below.refl _ _) (fun _ => rfl)
    (fun pre W => AllEqv XX YY pre ∧ Below W0.heap.size W0 W)
    (fun c _ W => c = .ret ∧ R = false ∧ W.cell? ⟨w.heap.size + 1 + 1, 0, none⟩ = some (.bool false) ∧ Below w.heap.size w W)
    (fun s A B row hs hg hr => ⟨hs.1, ownFrom_below (β := Unit) (Nat.le_refl _) (Nat.le_refl _) () A B row hs.2 hg hr⟩)
    (fun c s A B row hs hg hr => ⟨hs.1, hs.2.1, cell_kept hs.2.2.1 hg (fun r e => (hr r e).2), ownFrom_below (β := Unit) (Nat.le_refl _) (by omega) () A B row hs.2.2.2 hg hr⟩)
    ⟨fun i hi => absurd hi List.not_mem_nil, Below.refl _ _⟩
    (fun (i : _root_.Fin n) a' W => ∃ Bx, W0.heap.size ≤ Bx ∧ Blk W Bx (.int .i64 (XX i).k) (.int .i64 (XX i).op) (.int .i64 (XX i).n) (.string (bstr (XX i).nm)) (.slice (pu i) (XX i).ks.length (cu i)) (.int .i64 (XX i).a) ∧ Blk W (Bx + 1) (.int .i64 (YY i).k) (.int .i64 (YY i).op) (.int .i64 (YY i).n) (.string (bstr (YY i).nm)) (.slice (pv i) (YY i).ks.length (cv i)) (.int .i64 (YY i).a) ∧ ∃ u : Nat → Value, a' = { tmps := #[u 0, u 1, u 2, u 3, .pointer (some ⟨w.heap.size + 1 + 1, 0, none⟩), .pointer (some ⟨Bx, 0, none⟩), .pointer (some ⟨Bx + 1, 0, none⟩), u 7, u 8, u 9, u 10, u 11, u 12, u 13, u 14, u 15, u 16, u 17, u 18, u 19, u 20, u 21, u 22, u 23, u 24, u 25, u 26, u 27, u 28, u 29, u 30, u 31, u 32, u 33, u 34, u 35, u 36, u 37, u 38, u 39, u 40, u 41, u 42, u 43, u 44, u 45, u 46, u 47, u 48, u 49, u 50, u 51, u 52], defers := [] })
    (fun i a' _ A B row hs hg hr => by
      obtain ⟨Bx, h1, h2, h3, u, h4⟩ := hs
      exact ⟨Bx, h1, blk_own _ _ _ _ _ _ _ h2 hg (fun r e => (hr r e).2), blk_own _ _ _ _ _ _ _ h3 hg (fun r e => (hr r e).2), u, h4⟩)
    ?assign ?body ?done ?stop
  case assign =>
    rintro l pre i W K ⟨hE, hB⟩ hK
    have hsW := hB.size
    gi_wp2
    have hb2 : ∀ B, B ≤ W.heap.size → ∀ o o', Below B W ((W.alloc o).alloc o') := fun B hb o o' => ((Below.refl _ W).alloc hb _).alloc (by simp; omega) _
    exact hK _ _ (keepsFrom_below (hb2 _ (Nat.le_refl _) _ _)) (hb2 _ hsW _ _) ⟨hE, hB.trans (hb2 _ hsW _ _)⟩ ⟨W.heap.size, hsW, (Blk.new rfl _ _ _ _ _ _).alloc _, Blk.new (by simp) _ _ _ _ _ _, by apply act_lit⟩
  case body =>
    rintro l pre i a' W hl hr ⟨hE, hB⟩ ⟨Bx, hBx, bX, bY, u, rfl⟩ hlt
    have hsW := hB.size
    have hBw : Below w.heap.size w W := hB0.trans (hB.mono (by omega))
    have hxi : x.ks[i.1]? = some (XX i) := by
      rw [hXX.out, List.getD_eq_getElem?_getD, List.getElem?_eq_getElem (by rw [hL1.out]; exact i.2)]
      rfl
    have hk := kid_lt hxi
    obtain ⟨bb, hbb⟩ : ∃ bb, bb = (XX i).eqv (YY i) := ⟨_, rfl⟩
    have hI : Hid (Calls Tryz.prog 24 #[exVal (XX i) (.slice (pu i) (XX i).ks.length (cu i)), exVal (YY i) (.slice (pv i) (YY i).ks.length (cv i))] W fun e w' => e = .returned (.bool bb) ∧ Below W.heap.size W w') :=
      Lib.hid (by rw [hbb]; exact IH.out (XX i) (YY i) (pu i) (pv i) (cu i) (cv i) W (by have := HN.out; omega) ((hUX i i.2).stay hBw) ((hUY i i.2).stay hBw))
    obtain ⟨blx, c0x, c1x, c2x, c3x, c4x, c5x, f0x, f1x, f2x, f3x, f4x, f5x⟩ := (bX).facts
    obtain ⟨bly, c0y, c1y, c2y, c3y, c4y, c5y, f0y, f1y, f2y, f3y, f4y, f5y⟩ := (bY).facts
    have cR2 := (hB.cell (p := ⟨w.heap.size + 1 + 1, 0, none⟩) (by simp; omega)).trans cR
    have fR2 := (World.frozen?_of_block (a := ⟨w.heap.size + 1 + 1, 0, none⟩) (hB.block (w.heap.size + 1 + 1) (by omega))).trans fR
    clear hxi hk
    cases bb with
    | false =>
      have hF : R = false := by
        rw [hT.out]
        cases hh : Ex.eqvL x.ks y.ks with
        | false => rfl
        | true =>
          have := (eqvL_all x.ks y.ks (by rw [hL1.out, hL2.out])).1 hh i (by rw [hL1.out]; exact i.2)
          rw [← hXX.out, ← hYY.out, ← hbb] at this
          cases this
      have HF := Lib.hid hF
      clear hF hbb
      gi_wp2_with (refine ⟨trivial, ?_⟩; gi_at_call 24; (with_reducible refine (CallsIn.inRound l (callsIn_wide.2 hI.out)).mono ?_); rintro e w3 ⟨rfl, hb3⟩; have cR3 : w3.cell? ⟨w.heap.size + 1 + 1, 0, none⟩ = some (.bool false) := (hb3.cell (p := ⟨w.heap.size + 1 + 1, 0, none⟩) (by simp; omega)).trans cR2; have fR3 : w3.frozen? ⟨w.heap.size + 1 + 1, 0, none⟩ = false := (World.frozen?_of_block (a := ⟨w.heap.size + 1 + 1, 0, none⟩) (hb3.block (w.heap.size + 1 + 1) (by omega))).trans fR2)
      exact ⟨(keepsFrom_below hb3).trans ((KeepsOthers.setCell _ _ _).from _), rfl, HF.out, World.cell?_setCell_same' _ _ _ (by rw [cR3]; rfl), (hBw.trans (hb3.mono hBw.size)).setCell (p := ⟨w.heap.size + 1 + 1, 0, none⟩) (by simp; omega) _⟩
    | true =>
      have HBB := Lib.hid hbb
      clear hbb
      gi_wp2_with (refine ⟨trivial, ?_⟩; gi_at_call 24; (with_reducible refine (CallsIn.inRound l (callsIn_wide.2 hI.out)).mono ?_); rintro e w3 ⟨rfl, hb3⟩)
      refine ⟨keepsFrom_below hb3, hb3.mono hsW, fun k hk => ?_, hB.trans (hb3.mono hsW)⟩
      rcases List.mem_append.1 hk with hk | hk
      · exact hE k hk
      · rw [List.mem_singleton] at hk
        rw [hk]
        exact HBB.out.symm
  case done =>
    rintro D zs W hD rfl ⟨hE, hB⟩ hK
    have hsW := hB.size
    have hBw : Below w.heap.size w W := hB0.trans (hB.mono (by omega))
    have cR2 := (hB.cell (p := ⟨w.heap.size + 1 + 1, 0, none⟩) (by simp; omega)).trans cR
    have fR2 := (World.frozen?_of_block (a := ⟨w.heap.size + 1 + 1, 0, none⟩) (hB.block (w.heap.size + 1 + 1) (by omega))).trans fR
    have hF : R = true := by
      rw [hT.out, eqvL_all x.ks y.ks (by rw [hL1.out, hL2.out])]
      intro i hi
      have := hE ⟨i, by rw [hL1.out] at hi; exact hi⟩ (by simp)
      rw [← hXX.out, ← hYY.out]
      exact this
    have HF := Lib.hid hF
    have HE := Lib.hid hE
    clear hF hE
    gi_wp2
    have hK' := (KeepsOthers.setCell W ⟨w.heap.size + 1 + 1, 0, none⟩ (.bool true)).same D _ hK rfl
    refine ⟨by simp, .inl ⟨_, _, rfl, run_takeDeferred hK', ?_⟩⟩
    have hc5 := cell_kept (World.cell?_setCell_same' W ⟨w.heap.size + 1 + 1, 0, none⟩ (.bool true) (by rw [cR2]; rfl)) (grownBy_putObj' _ D (.deferred none)) (fun r e => by cases e; exact ⟨_, hK', rfl⟩)
    exact ⟨.bool true, results_cell1 (n := w.heap.size + 1 + 1) Tryz.results24 _ rfl rfl hc5, by rw [HF.out], (hBw.setCell (p := ⟨w.heap.size + 1 + 1, 0, none⟩) (by simp; omega) _).trans (belowK_b (w := w) (Nat.le_refl _) _ D _ _ (by omega) hK' rfl rfl)⟩
  case stop =>
    rintro D c pre W hD _ ⟨rfl, hR, hc, hB⟩ hK
    gi_wp2
    refine ⟨by simp, .inl ⟨_, _, rfl, run_takeDeferred hK, ?_⟩⟩
    have hc5 := cell_kept hc (grownBy_putObj' _ D (.deferred none)) (fun r e => by cases e; exact ⟨_, hK, rfl⟩)
    exact ⟨.bool false, results_cell1 (n := w.heap.size + 1 + 1) Tryz.results24 _ rfl rfl hc5, by rw [hR], hB.trans (belowK_b (w := w) (Nat.le_refl _) W D _ _ (by omega) hK rfl rfl)⟩

theorem same_any : ∀ N, SameEGoal N
  | 0 => fun _ _ _ _ _ _ _ h => absurd h.1 (by omega)
  | N + 1 => same_step N (Lib.hid (same_any N))
end Go.Proofs.YtngfbpmabdmkeaaGreatDoor
namespace Go.Proofs.YtngfbpmabdmkeaaGreatDoor
open Go Go.RowKit Go.Shelf

attribute [local go_sem] Oper.semAt_some

theorem roundIn_any {m m' : Nat} {P : Program} {l : Nat} {f : FuncId} {tmps : Array Value} {assign body : Code} {w : World} {R : Ending → World → Prop}
    (h : RoundIn Fence.wide m P l f tmps assign body w R) : RoundIn Fence.wide m' P l f tmps assign body w R := ⟨h.1, fun c cs _ => h.2 c cs fun d h => by cases h⟩
theorem yieldAt_any {m : Nat} (m' : Nat) {P : Program} {l : Nat} {args : Array Value} {W : World} {R : Ending → World → Prop} (h : YieldAt Fence.wide m P l args W R) : YieldAt Fence.wide m' P l args W R := by
  obtain ⟨fn, tmps, assign, body, hy, hR⟩ := h
  exact ⟨fn, tmps, assign, body, hy, roundIn_any hR⟩

mutual
/-- An expression and all that it is made of, each ahead of its kids. -/
def Ex.pre : Ex → List Ex
  | .mk k o n nm ks a => .mk k o n nm ks a :: Ex.preL ks
def Ex.preL : List Ex → List Ex
  | [] => []
  | x :: r => Ex.pre x ++ Ex.preL r
end
theorem preL_append : ∀ l m : List Ex, Ex.preL (l ++ m) = Ex.preL l ++ Ex.preL m
  | [], m => by simp [Ex.preL]
  | x :: r, m => by simp only [List.cons_append, Ex.preL, preL_append r m, List.append_assoc]
theorem preL_take {l : List Ex} {i : Nat} {x : Ex} (h : l[i]? = some x) : Ex.preL (l.take (i + 1)) = Ex.preL (l.take i) ++ x.pre := by
  rw [List.take_add_one, h, preL_append]
  simp [Ex.preL]
mutual
theorem pre_len : ∀ x : Ex, x.pre.length = x.cnt
  | .mk k o n nm ks a => by simp only [Ex.pre, Ex.cnt, List.length_cons, preL_len ks]; omega
theorem preL_len : ∀ l : List Ex, (Ex.preL l).length = Ex.cntL l
  | [] => by simp [Ex.preL, Ex.cntL]
  | x :: r => by simp only [Ex.preL, Ex.cntL, List.length_append, pre_len x, preL_len r]
end
theorem pre_head (x : Ex) : x.pre = x :: Ex.preL x.ks := by cases x; simp only [Ex.pre, Ex.ks]
theorem cnt_ks (x : Ex) : x.cnt = 1 + Ex.cntL x.ks := by cases x; simp only [Ex.cnt, Ex.ks]
theorem cntL_at {l : List Ex} {i : Nat} {x : Ex} (h : l[i]? = some x) : Ex.cntL (l.take i) + x.cnt ≤ Ex.cntL l := by
  have h1 := congrArg List.length (preL_append (l.take (i + 1)) (l.drop (i + 1)))
  rw [List.take_append_drop, preL_take h, List.length_append, List.length_append, preL_len, preL_len, pre_len] at h1
  omega
/-- No name in an expression is longer than that. -/
inductive Shorts : Ex → Prop
  | mk {k o n : Int} {nm : List UInt8} {ks : List Ex} {a : Nat} : nm.length ≤ 100000 → (∀ y, y ∈ ks → Shorts y) → Shorts (.mk k o n nm ks a)
theorem Shorts.nm {x : Ex} (h : Shorts x) : x.nm.length ≤ 100000 := by
  cases h with
  | mk h1 _ => exact h1
theorem Shorts.kid {x y : Ex} (h : Shorts x) (hy : y ∈ x.ks) : Shorts y := by
  cases h with
  | mk _ h3 => exact h3 y hy

/-- What comes: an expression, and where its kids are. -/
abbrev Pt := { e : Ex × Option Addr × Nat // e.1.nm.length ≤ 100000 }
abbrev Pt.ex (y : Pt) : Ex := y.1.1
abbrev ptV (y : Pt) : Array Value := #[exVal y.1.1 (.slice y.1.2.1 y.1.1.ks.length y.1.2.2)]

theorem keptE_t {A B C : World} (h : KeptE A B) (k : KeptE B C) : KeptE A C := h.step k
theorem keptE_b (W : World) (l : Nat) (o o' : Obj) (h : W.heap[l]? = some o) (hc : o.isCells = false) : KeptE W (W.putObj l o') :=
  ⟨(grownBy_putObj' W l o').size, fun k cs fr hk => (World.grownBy.block (grownBy_putObj' W l o') k (Array.getElem?_eq_some_iff.1 hk).1 (fun e => by
    cases e
    rw [hk] at h
    cases h
    cases hc)).trans hk⟩

/-- What a round owes, and what the walk may do between rounds. -/
structure Rounds (l M : Nat) (J Jx : List Pt → World → Prop) : Prop where
  al : ∀ pre A o, J pre A → J pre (A.alloc o)
  yl : ∀ m pre (t : Pt) (x : Ex) (p : Option Addr) (k c : Nat) W, t.1 = (x, p, c) → k = x.ks.length → J pre W → pre.length < M → YieldAt Fence.wide m Tryz.prog l #[.agg #[.int .i64 x.k, .int .i64 x.op, .int .i64 x.n, .string (bstr x.nm), .slice p k c, .int .i64 x.a]] W fun e W' => (e = .returned (.bool true) ∧ J (pre ++ [t]) W' ∧ KeptE W W') ∨ (e = .returned (.bool false) ∧ Jx (pre ++ [t]) W')

def WalkGoal (l M : Nat) (J Jx : List Pt → World → Prop) (N : Nat) : Prop := ∀ (x : Ex) (n : Nat) (pre : List Pt) (p : Option Addr) (c : Nat) (W : World), x.cnt < N → x.cnt < 1000000000 → Shorts x → IsEx 0 W x (.slice p x.ks.length c) → J pre W → pre.length + x.cnt ≤ M →
  CallsIn Fence.wide n Tryz.prog 57 #[.agg #[.int .i64 x.k, .int .i64 x.op, .int .i64 x.n, .string (bstr x.nm), .slice p x.ks.length c, .int .i64 x.a], .func (.yield l) #[] #[]] W fun e W' =>
    (e = .returned (.bool true) ∧ (∃ zs : List Pt, zs.map Pt.ex = x.pre ∧ J (pre ++ zs) W') ∧ KeptE W W') ∨ (e = .returned (.bool false) ∧ ∃ q, Jx q W')

set_option maxRecDepth 100000 in
set_option maxHeartbeats 2000000 in
theorem walk_step (l M : Nat) (J Jx : List Pt → World → Prop) (HR : Hid (Rounds l M J Jx)) (N : Nat) (IH : Hid (WalkGoal l M J Jx N)) : WalkGoal l M J Jx (N + 1) := by
  intro x n pre p c W hN h9 hs hx hJ hM
  have hck := cnt_ks x
  have hkn := ks_lt x
  obtain ⟨pt, hpt⟩ : ∃ pt : Pt, pt.1 = (x, p, c) := ⟨⟨(x, p, c), hs.nm⟩, rfl⟩
  have hn9 : x.ks.length < 1000000000 := by omega
  have HX := Lib.hid hx
  have HS := Lib.hid hs
  have HN := Lib.hid (And.intro hN (And.intro h9 hM))
  have HC := Lib.hid hck
  have HPT := Lib.hid hpt
  obtain ⟨m, hm'⟩ : ∃ m, m = x.ks.length := ⟨_, rfl⟩
  have hm := Lib.hid hm'
  obtain ⟨fn, tmps, assign, body, hy, hR⟩ := HR.out.yl (n - 1) pre pt x p m c (W.alloc (.cells #[.int .i64 x.k, .int .i64 x.op, .int .i64 x.n, .string (bstr x.nm), .slice p m c, .int .i64 x.a] 25)) hpt hm' (HR.out.al _ _ _ hJ) (by omega)
  have HRR := Lib.hid hR
  clear hR hx hs hN h9 hM hck hkn hJ hpt
  replace HX : Hid (IsEx 0 W x (.slice p m c)) := Lib.hid (by rw [hm.out]; exact HX.out)
  rw [← hm'] at hn9 ⊢
  clear hm'
  refine callsIn_of_wp Tryz.func57 rfl trivial ?_ rfl
  simp only [Tryz.ntmps57, List.size_toArray, List.length_cons, List.length_nil, Nat.reduceAdd, Nat.reduceSub, Array.replicate_succ, Array.replicate_zero, List.push_toArray, List.append_toArray, List.nil_append, List.cons_append]
  gi_wp2_with ((try refine ⟨fun h => (by cases h), ?_⟩); refine HRR.out.mono ?_; rintro e W1 (⟨rfl, hJ1, hk1⟩ | ⟨rfl, hx1⟩); (try (have BX1 : Blk W1 W.heap.size (.int .i64 x.k) (.int .i64 x.op) (.int .i64 x.n) (.string (bstr x.nm)) (.slice p m c) (.int .i64 x.a) := (Blk.new rfl _ _ _ _ _ _).ke hk1; obtain ⟨blx, c0x, c1x, c2x, c3x, c4x, c5x, f0x, f1x, f2x, f3x, f4x, f5x⟩ := (BX1).facts)))
  · have hkW1 : KeptE W W1 := ((KeptE.refl W).alloc _).step hk1
    gi_loopw [14] (fun iv wr => ∃ (i : Nat) (zs : List Pt), iv = .int .i64 i ∧ i ≤ m ∧ zs.map Pt.ex = Ex.preL (x.ks.take i) ∧ J (pre ++ [pt] ++ zs) wr ∧ KeptE W1 wr) (fun iv _ => m - (intOf iv).toNat)
    case atStart => exact ⟨0, [], rfl, Nat.zero_le _, by simp [Ex.preL], by simpa using hJ1, KeptE.refl _⟩
    case round =>
      obtain ⟨i, zs, rfl, hi, hz, hJr, hkr⟩ := hrel
      have hkw : KeptE W wr := hkW1.step hkr
      by_cases hin : i < m
      · have hin2 : (i : Int) < m := by omega
        obtain ⟨y, hy2⟩ : ∃ y, x.ks[i]? = some y := ⟨_, List.getElem?_eq_getElem (by rw [← hm.out]; exact hin)⟩
        obtain ⟨g, cap, u, hp, -, hg, hyx, d0, d1, d2, d3, d4, d5⟩ := (HX.out.ke hkw).kid hy2
        obtain ⟨rfl, rfl⟩ : p = some ⟨g, 0, none⟩ ∧ c = cap := by (simp at hp; exact ⟨hp.1, hp.2.2⟩)
        obtain ⟨py, cy, rfl⟩ := hyx.form
        have hcy := kid_lt hy2
        have hct := cntL_at hy2
        have hzl : zs.length = Ex.cntL (x.ks.take i) := by (rw [← preL_len, ← hz, List.length_map])
        have hI : Hid (CallsIn Fence.wide (n - 1) Tryz.prog 57 #[.agg #[.int .i64 y.k, .int .i64 y.op, .int .i64 y.n, .string (bstr y.nm), .slice py y.ks.length cy, .int .i64 y.a], .func (.yield l) #[] #[]] (wr.alloc (.cells #[.int .i64 y.k, .int .i64 y.op, .int .i64 y.n, .string (bstr y.nm), .slice py y.ks.length cy, .int .i64 y.a] 25)) fun e W' =>
            (e = .returned (.bool true) ∧ (∃ qs : List Pt, qs.map Pt.ex = y.pre ∧ J (pre ++ [pt] ++ zs ++ qs) W') ∧ KeptE (wr.alloc (.cells #[.int .i64 y.k, .int .i64 y.op, .int .i64 y.n, .string (bstr y.nm), .slice py y.ks.length cy, .int .i64 y.a] 25)) W') ∨ (e = .returned (.bool false) ∧ ∃ q, Jx q W')) :=
          Lib.hid (IH.out y (n - 1) (pre ++ [pt] ++ zs) py cy _ (by have := HN.out; omega) (by have := HN.out; omega) (HS.out.kid (List.mem_of_getElem? hy2)) (hyx.alloc _) (HR.out.al _ _ _ hJr) (by have := HN.out; have := HC.out; simp; omega))
        have HZ : Hid (Ex.preL (x.ks.take (i + 1)) = zs.map Pt.ex ++ y.pre) := Lib.hid (by rw [preL_take hy2, hz])
        clear hyx hp hy2 hcy hct hzl hz hJr
        gi_wp2_with (refine ⟨trivial, fun h => (by cases h), ?_⟩; gi_at_call 57; (with_reducible refine hI.out.mono ?_); rintro e W3 (⟨rfl, ⟨qs, hq, hJ3⟩, hk3⟩ | ⟨rfl, q, hx3⟩))
        · refine ⟨⟨i + 1, zs ++ qs, by simp, by omega, by (rw [HZ.out, List.map_append, hq]), by (rw [← List.append_assoc]; exact hJ3), ?_⟩, by simp [intOf]; omega⟩
          exact (hkr.alloc _).step hk3
        · refine bodyPost_ret (results_tmp rfl _ _ _) rfl ?_
          exact .inr ⟨rfl, q, hx3⟩
      · obtain rfl : i = m := by omega
        gi_wp2
        refine bodyPost_ret (results_tmp rfl _ _ _) rfl ?_
        refine .inl ⟨rfl, ⟨pt :: zs, ?_, by simpa using hJr⟩, hkw⟩
        rw [List.map_cons, hz, pre_head, hm.out, List.take_length]
        show pt.1.1 :: _ = _
        rw [HPT.out]
  · refine bodyPost_ret (results_tmp rfl _ _ _) rfl ?_
    exact .inr ⟨rfl, _, hx1⟩

theorem walk_any (l M : Nat) (J Jx : List Pt → World → Prop) (HR : Hid (Rounds l M J Jx)) : ∀ N, WalkGoal l M J Jx N
  | 0 => fun _ _ _ _ _ _ h => absurd h (by omega)
  | N + 1 => walk_step l M J Jx HR N (Lib.hid (walk_any l M J Jx HR N))
end Go.Proofs.YtngfbpmabdmkeaaGreatDoor
namespace Go.Proofs.YtngfbpmabdmkeaaGreatDoor
open Go Go.RowKit Go.Shelf Go.Maps Go.WideMaps

attribute [local go_sem] Oper.semAt_some

def nmE (e : Ex) : List (List UInt8) := if e.k = 2 ∨ e.k = 3 ∨ e.k = 7 then [e.nm] else []
def addN (acc : List (List UInt8)) (t : List UInt8) : List (List UInt8) := if t ∈ acc then acc else acc ++ [t]
/-- Each once, in the order in which they come. -/
def ddp (l : List (List UInt8)) : List (List UInt8) := l.foldl addN []
def found (pre : List Pt) : List (List UInt8) := ddp ((pre.map Pt.ex).flatMap nmE)
theorem found_snoc (pre : List Pt) (t : Pt) : found (pre ++ [t]) = (nmE t.ex).foldl addN (found pre) := by
  unfold found ddp
  rw [List.map_append, List.flatMap_append, List.foldl_append]
  simp
theorem found_not {pre : List Pt} {t : Pt} (h : ¬ (t.ex.k = 2 ∨ t.ex.k = 3 ∨ t.ex.k = 7)) : found (pre ++ [t]) = found pre := by
  rw [found_snoc]
  unfold nmE
  rw [if_neg h]
  rfl
theorem found_old {pre : List Pt} {t : Pt} (h : t.ex.k = 2 ∨ t.ex.k = 3 ∨ t.ex.k = 7) (h2 : t.ex.nm ∈ found pre) : found (pre ++ [t]) = found pre := by
  rw [found_snoc]
  unfold nmE
  rw [if_pos h]
  simp [addN, h2]
theorem found_new {pre : List Pt} {t : Pt} (h : t.ex.k = 2 ∨ t.ex.k = 3 ∨ t.ex.k = 7) (h2 : t.ex.nm ∉ found pre) : found (pre ++ [t]) = found pre ++ [t.ex.nm] := by
  rw [found_snoc]
  unfold nmE
  rw [if_pos h]
  simp [addN, h2]
theorem addN_len (l : List (List UInt8)) : ∀ acc : List (List UInt8), (l.foldl addN acc).length ≤ acc.length + l.length := by
  induction l with
  | nil => intro acc; simp
  | cons x r ih =>
    intro acc
    have h1 := ih (addN acc x)
    have h2 : (addN acc x).length ≤ acc.length + 1 := by unfold addN; split <;> simp
    simp only [List.foldl_cons, List.length_cons]
    omega
theorem nmE_len (e : Ex) : (nmE e).length ≤ 1 := by unfold nmE; split <;> simp
theorem flat_len : ∀ l : List Ex, (l.flatMap nmE).length ≤ l.length
  | [] => by simp
  | x :: r => by
    have := flat_len r
    have := nmE_len x
    simp only [List.flatMap_cons, List.length_append, List.length_cons]
    omega
theorem found_len (pre : List Pt) : (found pre).length ≤ pre.length := by
  have h1 := addN_len ((pre.map Pt.ex).flatMap nmE) []
  have h2 := flat_len (pre.map Pt.ex)
  rw [List.length_map] at h2
  unfold found ddp
  simp only [List.length_nil] at h1
  omega
mutual
theorem nms_pre : ∀ x : Ex, x.nms = x.pre.flatMap nmE
  | .mk k o n nm ks a => by
    simp only [Ex.nms, Ex.pre, List.flatMap_cons, nmsL_pre ks]
    rfl
theorem nmsL_pre : ∀ l : List Ex, Ex.nmsL l = (Ex.preL l).flatMap nmE
  | [] => by simp [Ex.nmsL, Ex.preL]
  | x :: r => by simp only [Ex.nmsL, Ex.preL, List.flatMap_append, nms_pre x, nmsL_pre r]
end

set_option maxRecDepth 100000 in
theorem named_any (k : Int) (w : World) : Calls Tryz.prog 28 #[.int .i64 k] w fun e w' => e = .returned (.bool (decide (k = 2 ∨ k = 3 ∨ k = 7))) ∧ w' = w := by
  obtain ⟨R, hR⟩ : ∃ R, R = decide (k = 2 ∨ k = 3 ∨ k = 7) := ⟨_, rfl⟩
  rw [← hR]
  by_cases h2 : k = 2
  · have hb : (k == 2) = true := by simpa using h2
    obtain rfl : R = true := by rw [hR, h2]; rfl
    clear h2 hR
    go_enter Tryz.func28, Tryz.ntmps28
    go_wp2
    go_ret
    exact ⟨rfl, rfl⟩
  by_cases h3 : k = 3
  · have hb : (k == 2) = false := by simpa using h2
    have hb3 : (k == 3) = true := by simpa using h3
    obtain rfl : R = true := by rw [hR, h3]; rfl
    clear h2 h3 hR
    go_enter Tryz.func28, Tryz.ntmps28
    go_wp2
    go_ret
    exact ⟨rfl, rfl⟩
  by_cases h7 : k = 7
  · have hb : (k == 2) = false := by simpa using h2
    have hb3 : (k == 3) = false := by simpa using h3
    have hb7 : (k == 7) = true := by simpa using h7
    obtain rfl : R = true := by rw [hR, h7]; rfl
    clear h2 h3 h7 hR
    go_enter Tryz.func28, Tryz.ntmps28
    go_wp2
    go_ret
    exact ⟨rfl, rfl⟩
  · have hb : (k == 2) = false := by simpa using h2
    have hb3 : (k == 3) = false := by simpa using h3
    have hb7 : (k == 7) = false := by simpa using h7
    obtain rfl : R = false := by rw [hR]; simp [h2, h3, h7]
    clear h2 h3 h7 hR
    go_enter Tryz.func28, Tryz.ntmps28
    go_wp2
    go_ret
    exact ⟨rfl, rfl⟩

theorem parts_in (n : Nat) (x : Ex) (p : Option Addr) (m c : Nat) (w : World) : CallsIn Fence.wide n Tryz.prog 27 #[.agg #[.int .i64 x.k, .int .i64 x.op, .int .i64 x.n, .string (bstr x.nm), .slice p m c, .int .i64 x.a]] w fun e w' =>
    e = .returned (.func (.func 56) #[] #[.pointer (some ⟨w.heap.size, 0, none⟩)]) ∧ w' = w.alloc (.cells #[.int .i64 x.k, .int .i64 x.op, .int .i64 x.n, .string (bstr x.nm), .slice p m c, .int .i64 x.a] 25) := by
  refine callsIn_of_wp Tryz.func27 rfl trivial ?_ rfl
  simp only [Tryz.ntmps27, List.size_toArray, List.length_cons, List.length_nil, Nat.reduceAdd, Nat.reduceSub, Array.replicate_succ, Array.replicate_zero, List.push_toArray, List.append_toArray, List.nil_append, List.cons_append]
  gi_wp2
  go_ret
  exact ⟨rfl, rfl⟩

set_option maxRecDepth 100000 in
theorem parts_stops (n b : Nat) (x : Ex) (p : Option Addr) (m c : Nat) (hm : Hid (m = x.ks.length)) (h9 : x.cnt < 1000000000) (hs : Shorts x) (w : World) (hb : b < w.heap.size) (hbk : Blk w b (.int .i64 x.k) (.int .i64 x.op) (.int .i64 x.n) (.string (bstr x.nm)) (.slice p m c) (.int .i64 x.a)) (hx : IsEx 0 w x (.slice p m c)) :
    SeqStopsK Fence.wide n Tryz.prog 56 #[.pointer (some ⟨b, 0, none⟩)] ptV KeptE (fun zs => zs.map Pt.ex = x.pre) (fun _ => True) x.cnt w := fun l J Jx W hW hJ _ hY h0 => by
  have HR : Rounds l x.cnt J Jx := ⟨fun pre A o h => hJ pre A (A.alloc o) none h (World.grownBy_alloc A o none) (fun r e => by cases e), fun k pre t y q m' c' W1 ht hk h hl => by
    have := yieldAt_any k (hY pre t W1 h hl)
    unfold ptV at this
    rw [ht] at this
    subst hk
    exact this⟩
  have hbW : Blk W b (.int .i64 x.k) (.int .i64 x.op) (.int .i64 x.n) (.string (bstr x.nm)) (.slice p m c) (.int .i64 x.a) := (hW.block b hb).trans hbk
  have hI : Hid (CallsIn Fence.wide (n - 1) Tryz.prog 57 #[.agg #[.int .i64 x.k, .int .i64 x.op, .int .i64 x.n, .string (bstr x.nm), .slice p m c, .int .i64 x.a], .func (.yield l) #[] #[]] W fun e W' =>
    (e = .returned (.bool true) ∧ (∃ zs : List Pt, zs.map Pt.ex = x.pre ∧ J ([] ++ zs) W') ∧ KeptE W W') ∨ (e = .returned (.bool false) ∧ ∃ q, Jx q W')) := Lib.hid (by
    rw [hm.out] at hx ⊢
    exact walk_any l x.cnt J Jx (Lib.hid HR) (x.cnt + 1) x (n - 1) [] p c W (by omega) h9 hs (hx.stay hW) h0 (by simp))
  obtain ⟨blx, c0x, c1x, c2x, c3x, c4x, c5x, f0x, f1x, f2x, f3x, f4x, f5x⟩ := (hbW).facts
  clear hY HR hx hbk
  refine callsIn_of_wp Tryz.func56 rfl trivial ?_ rfl
  simp only [Tryz.ntmps56, List.size_toArray, List.length_cons, List.length_nil, Nat.reduceAdd, Nat.reduceSub, Array.replicate_succ, Array.replicate_zero, List.push_toArray, List.append_toArray, List.nil_append, List.cons_append]
  gi_wp2_with (refine ⟨trivial, fun h => (by cases h), ?_⟩; gi_at_call 57; (with_reducible refine hI.out.mono ?_); rintro e W3 (⟨rfl, ⟨zs, hz, hJ3⟩, hk3⟩ | ⟨rfl, q, hx3⟩))
  · go_end0
    exact ⟨⟨_, rfl⟩, .inl ⟨zs, hz, hJ3⟩⟩
  · go_end0
    exact ⟨⟨_, rfl⟩, .inr ⟨q, trivial, hx3⟩⟩

def strV (t : List UInt8) : Value := .string (bstr t)
theorem infoS : (Tryz.prog.info? 9).map (fun i => (i.zero, i.size, i.bytes)) = some (some (.string ⟨#[]⟩), 1, 16) := by kernel_rfl
theorem has_names (acc : List (List UInt8)) (t : List UInt8) : Maps.has (setOf (H := Unit) (.agg []) (acc.map Lit.string)) (.string t) = decide (t ∈ acc) := by
  rw [has_setOf _ _ _ (by
    intro x hx
    obtain ⟨k, _, rfl⟩ := List.mem_map.1 hx
    trivial), List.any_map, Bool.eq_iff_iff]
  simp [Lit.sameKey]
theorem names_put (acc : List (List UInt8)) (t : List UInt8) : (setOf (H := Unit) (.agg []) (acc.map Lit.string)).put (.string t) (.agg []) = setOf (.agg []) ((acc ++ [t]).map Lit.string) := by simp [setOf]
/-- What stands between two rounds: the names so far, and which are known. -/
def NmI (n₀ nb mb bb Z : Nat) (w0 : World) (pre : List Pt) (W : World) : Prop :=
  (∃ v, Boxed W nb 29 v ∧ W.ownsRow n₀ 9 1 v (found pre).length ((found pre).map strV) ∧ (v = .slice none 0 0 ↔ found pre = [])) ∧ W.ownsMap Tryz.prog 9 (unitElem (H := Unit)) mb (found pre).length (setOf (.agg []) ((found pre).map Lit.string)) ∧ Boxed W bb 69 (.map (some mb)) ∧ Below n₀ w0 W ∧ Z ≤ W.heap.size
theorem nmI_own (n₀ nb mb bb Z B : Nat) (w0 : World) (h0 : n₀ ≤ w0.heap.size) (h1 : n₀ ≤ B) (hm : mb < B) : OwnFrom B (NmI n₀ nb mb bb Z w0) := by
  rintro s X Y row ⟨h2, h3, h4, h5, h6⟩ hg hr
  refine ⟨?_, h3.kept hg (fun e => ?_), ?_, ownFrom_below (β := Unit) h0 h1 () X Y row h5 hg hr, Nat.le_trans h6 (World.grownBy.size hg)⟩
  · exact holdsRow_own n₀ nb 29 9 1 (fun s => (found s).length) (fun s => (found s).map strV) (fun s v => (v = .slice none 0 0 ↔ found s = [])) s X Y row h2 hg (fun r e => (hr r e).2)
  · have := (hr mb e.symm).1
    omega
  · exact boxed_own bb _ (fun _ : Unit => .map (some mb)) () X Y row h4 hg (fun r e => (hr r e).2)
theorem NmI.alloc {n₀ nb mb bb Z : Nat} {w0 W : World} {pre : List Pt} (h : NmI n₀ nb mb bb Z w0 pre W) (h0 : n₀ ≤ w0.heap.size) (o : Obj) : NmI n₀ nb mb bb Z w0 pre (W.alloc o) := by
  obtain ⟨⟨v, h1, h2, h3⟩, h4, h5, h6, h7⟩ := h
  exact ⟨⟨v, h1.alloc _, h2.alloc _, h3⟩, h4.alloc _, h5.alloc _, h6.alloc (Nat.le_trans h0 h6.size) _, by simp; omega⟩
theorem act_nm (t0 t1 t2 t3 t4 t5 t6 t7 t8 t9 t10 t11 t12 t13 t14 t15 t16 t17 t18 t19 t20 t21 t22 t23 t24 t25 t26 t27 t28 t29 t30 t31 t32 t33 t34 : Value) (d : List Deferred) : ∃ u : Nat → Value, ({ tmps := #[t0, t1, t2, t3, t4, t5, t6, t7, t8, t9, t10, t11, t12, t13, t14, t15, t16, t17, t18, t19, t20, t21, t22, t23, t24, t25, t26, t27, t28, t29, t30, t31, t32, t33, t34], defers := d } : Act) = { tmps := #[u 0, u 1, u 2, t3, t4, t5, u 6, u 7, u 8, u 9, u 10, u 11, u 12, u 13, u 14, u 15, u 16, u 17, u 18, u 19, u 20, u 21, u 22, u 23, u 24, u 25, u 26, u 27, u 28, u 29, u 30, u 31, u 32, u 33, u 34], defers := d } := ⟨fun k => (#[t0, t1, t2, t3, t4, t5, t6, t7, t8, t9, t10, t11, t12, t13, t14, t15, t16, t17, t18, t19, t20, t21, t22, t23, t24, t25, t26, t27, t28, t29, t30, t31, t32, t33, t34] : Array Value).getD k undef, rfl⟩

theorem KeptE.grow {A X : World} {row : Option Nat} (hg : A.grownBy X row) (hr : ∀ g, row = some g → ∀ cs fr, A.heap[g]? ≠ some (.cells cs 25 fr)) : KeptE A X :=
  ⟨World.grownBy.size hg, fun k cs fr hk => (World.grownBy.block hg k (Array.getElem?_eq_some_iff.1 hk).1 (fun e => hr k e.symm cs fr hk)).trans hk⟩
theorem own_not {W : World} {B : Nat} {v : Value} {n : Nat} {xs : List Value} (h : W.ownsRow B 9 1 v n xs) : ∀ g, v.ownBlock = some g → ∀ cs fr, W.heap[g]? ≠ some (.cells cs 25 fr) := by
  intro g e cs fr hk
  rcases h.2 with ⟨rfl, _⟩ | ⟨g', cap, cur, rfl, _, hgb, _⟩
  · simp [Value.ownBlock] at e
  · obtain rfl : g' = g := by simpa [Value.ownBlock] using e
    rw [hgb] at hk
    cases hk
theorem KeptE.box {A X : World} (h : KeptE A X) {b : Nat} {v : Value} (hb : Boxed X b 29 v) (u : Value) : KeptE A (X.setCell ⟨b, 0, none⟩ u) :=
  h.step (.grow (grownBy_setCell' X b u) (fun g e cs fr hk => by
    cases e
    have h2 : X.heap[b]? = some _ := hb
    rw [h2] at hk
    cases hk))
theorem map_not {W : World} {mb n : Nat} {D : DataW Unit} (h : W.ownsMap Tryz.prog 9 (unitElem (H := Unit)) mb n D) : ∀ g, some mb = some g → ∀ cs fr, W.heap[g]? ≠ some (.cells cs 25 fr) := by
  intro g e cs fr hk
  cases e
  obtain ⟨es, clock, hb, _⟩ := h
  rw [hb] at hk
  cases hk

/-- A round that found a new name. -/
theorem leaf_end {n₀ nb mb bb Z : Nat} {w0 W w4 w5 w6 : World} {pre : List Pt} {t : Pt} {v v' : Value} {tmp : Obj} (hF : Hid (found (pre ++ [t]) = found pre ++ [t.1.1.nm])) (h0 : n₀ ≤ W.heap.size) (h6 : Below n₀ w0 W) (h7 : Z ≤ W.heap.size)
    (hB4 : Below n₀ W w4) (hK4 : KeptE W w4) (hF4 : KeepsFrom Z W w4) (hM : w4.ownsMap Tryz.prog 9 (unitElem (H := Unit)) mb ((found pre).length + 1) ((setOf (.agg []) ((found pre).map Lit.string)).put (.string (bstr t.1.1.nm).data.toList) (.agg [])))
    (hM4 : Boxed w4 bb 69 (.map (some mb))) (hb5 : Below w4.heap.size w4 w5) (hN5 : Boxed w5 nb 29 v) (hR5 : w5.ownsRow n₀ 9 1 v (found pre).length ((found pre).map strV))
    (hown' : w6.ownsRow n₀ 9 1 v' ((found pre).length + 1) ((found pre).map strV ++ [strV t.1.1.nm])) (hgrow6 : (w5.alloc tmp).grownBy w6 v.ownBlock) (hne : v' ≠ .slice none 0 0) (h1 : nb ≠ mb) (h2 : nb ≠ bb) (h3 : n₀ ≤ nb) (a : Act) :
    ownPostG Z KeptE (NmI n₀ nb mb bb Z w0) (fun _ _ _ => False) (pre ++ [t]) W .normal a (w6.setCell ⟨nb, 0, none⟩ v') := by
  have hs4 := hB4.size
  have hs5 := hb5.size
  obtain ⟨hv1, hv2, hr2, hk2, hb2⟩ := hN5.appended (by decide) hR5 (by omega) h3 hown' hgrow6
  have hg5 : w4.grownBy w5 none := ⟨hb5.os, hb5.tape, hb5.output, hb5.size, fun i hi _ => hb5.block i hi⟩
  have hM5 := ((hM.kept hg5 (by simp)).alloc tmp)
  have hnm : some mb ≠ v.ownBlock := fun e => by
    rcases (hR5.alloc tmp).2 with ⟨e2, _⟩ | ⟨g, cap, cur, e2, _, hgb, _⟩
    · rw [e2] at e
      simp [Value.ownBlock] at e
    · rw [e2] at e
      obtain rfl : mb = g := by simpa [Value.ownBlock] using e
      obtain ⟨es, clock, hb, _⟩ := hM5
      rw [hb] at hgb
      cases hgb
  have hM6 := hM5.kept hgrow6 hnm
  have hM7 := hM6.kept (grownBy_setCell' w6 nb v') (by simp; omega)
  have hb6 : Boxed w6 bb 69 (.map (some mb)) := ((hM4.kept hg5 (by simp)).alloc tmp).kept hgrow6 (((hM4.kept hg5 (by simp)).alloc tmp).not_row (by decide) (hR5.alloc tmp))
  have hb7 : Boxed (w6.setCell ⟨nb, 0, none⟩ v') bb 69 (.map (some mb)) := hb6.kept (grownBy_setCell' w6 nb v') (by simp; omega)
  refine ⟨hF4.trans ((keepsFrom_below hb5).trans (hk2.from _)), ?_, ?_⟩
  · exact ((((hK4.below hb5).alloc tmp).step (.grow hgrow6 (own_not (hR5.alloc tmp)))).box hv1 v')
  · unfold NmI
    rw [hF.out]
    refine ⟨⟨v', hv2, by simpa using hr2, by simp [hne]⟩, ?_, hb7, h6.trans (hB4.trans ((hb5.mono (by omega)).trans hb2)), ?_⟩
    · have e1 : (bstr t.1.1.nm).data.toList = t.1.1.nm := rfl
      rw [e1, names_put] at hM7
      simpa using hM7
    · have := hb2.size
      omega

set_option maxRecDepth 100000 in
set_option maxHeartbeats 4000000 in
theorem names_any (x : Ex) (p : Option Addr) (m c : Nat) (hm : Hid (m = x.ks.length)) (h9 : x.cnt < 1000000000) (hs : Shorts x) (w : World) (hx : IsEx 0 w x (.slice p m c)) :
    Calls Tryz.prog 12 #[.agg #[.int .i64 x.k, .int .i64 x.op, .int .i64 x.n, .string (bstr x.nm), .slice p m c, .int .i64 x.a]] w fun e w' =>
      ∃ q k c', e = .returned (.slice q k c') ∧ w'.ownsRow w.heap.size 9 1 (.slice q k c') (ddp x.nms).length ((ddp x.nms).map strV) ∧ Below w.heap.size w w' := by
  have hmm := @run_makeMap Tryz.prog
  refine (callsIn_wide (n := 9)).1 ?_
  refine callsIn_of_wp_marks Tryz.func12 rfl trivial ?_ rfl
  simp only [Tryz.ntmps12, List.size_toArray, List.length_cons, List.length_nil, Nat.reduceAdd, Nat.reduceSub, Array.replicate_succ, Array.replicate_zero, List.push_toArray, List.append_toArray, List.nil_append, List.cons_append]
  gi_wp2_with (refine ⟨trivial, ?_⟩; gi_at_call 27; refine (parts_in _ x p m c _).mono ?_; rintro e w' ⟨rfl, rfl⟩)
  have bN := (((Boxed.new (w.alloc (.cells #[.int .i64 x.k, .int .i64 x.op, .int .i64 x.n, .string (bstr x.nm), .slice p m c, .int .i64 x.a] 25)) 29 (.slice none 0 0)).alloc (.map #[] 0)).alloc (.cells #[.map (some (w.heap.size + 1 + 1))] 69)).alloc (.cells #[.int .i64 x.k, .int .i64 x.op, .int .i64 x.n, .string (bstr x.nm), .slice p m c, .int .i64 x.a] 25)
  have hM := ((World.ownsMap_made ((w.alloc (.cells #[.int .i64 x.k, .int .i64 x.op, .int .i64 x.n, .string (bstr x.nm), .slice p m c, .int .i64 x.a] 25)).alloc (.cells #[.slice none 0 0] 29)) Tryz.prog 9 (unitElem (H := Unit))).alloc (.cells #[.map (some (w.heap.size + 1 + 1))] 69)).alloc (.cells #[.int .i64 x.k, .int .i64 x.op, .int .i64 x.n, .string (bstr x.nm), .slice p m c, .int .i64 x.a] 25)
  have bM := (Boxed.new (((w.alloc (.cells #[.int .i64 x.k, .int .i64 x.op, .int .i64 x.n, .string (bstr x.nm), .slice p m c, .int .i64 x.a] 25)).alloc (.cells #[.slice none 0 0] 29)).alloc (.map #[] 0)) 69 (.map (some (w.heap.size + 1 + 1)))).alloc (.cells #[.int .i64 x.k, .int .i64 x.op, .int .i64 x.n, .string (bstr x.nm), .slice p m c, .int .i64 x.a] 25)
  have bP : Blk (((((w.alloc (.cells #[.int .i64 x.k, .int .i64 x.op, .int .i64 x.n, .string (bstr x.nm), .slice p m c, .int .i64 x.a] 25)).alloc (.cells #[.slice none 0 0] 29)).alloc (.map #[] 0)).alloc (.cells #[.map (some (w.heap.size + 1 + 1))] 69)).alloc (.cells #[.int .i64 x.k, .int .i64 x.op, .int .i64 x.n, .string (bstr x.nm), .slice p m c, .int .i64 x.a] 25)) (w.heap.size + 1 + 1 + 1 + 1) (.int .i64 x.k) (.int .i64 x.op) (.int .i64 x.n) (.string (bstr x.nm)) (.slice p m c) (.int .i64 x.a) := Blk.new (by simp) _ _ _ _ _ _
  simp only [World.size_alloc] at bN hM bM
  obtain ⟨W0, hW0⟩ : ∃ W0, W0 = (((((w.alloc (.cells #[.int .i64 x.k, .int .i64 x.op, .int .i64 x.n, .string (bstr x.nm), .slice p m c, .int .i64 x.a] 25)).alloc (.cells #[.slice none 0 0] 29)).alloc (.map #[] 0)).alloc (.cells #[.map (some (w.heap.size + 1 + 1))] 69)).alloc (.cells #[.int .i64 x.k, .int .i64 x.op, .int .i64 x.n, .string (bstr x.nm), .slice p m c, .int .i64 x.a] 25)) := ⟨_, rfl⟩
  have hsz : W0.heap.size = w.heap.size + 5 := by (rw [hW0]; simp)
  have hB0 : Below w.heap.size w W0 := by (rw [hW0]; (refine Fr.below ?_; (repeat (first | (with_reducible exact Fr.refl _ _) | (with_reducible refine Fr.alloc ?_ _) | (with_reducible refine Fr.drewN ?_ _) | (with_reducible refine Fr.drew ?_) | (with_reducible refine Fr.set ?_ ?_ _ _; rotate_left; first | exact .inl rfl | (right; simp; done) | (right; simp; omega) | (right; omega)) | (with_reducible refine Fr.step ?_ (by assumption)) | (with_reducible refine Fr.stepB ?_ (by assumption))))))
  try simp only [World.size_alloc]
  rw [← hW0] at bN hM bM bP ⊢
  clear hW0
  refine wpIn_rangeFunc_ownH rfl (by decide) (gf := 56) (lb := #[.pointer (some ⟨w.heap.size + 1 + 1 + 1 + 1, 0, none⟩)]) rfl trivial (enters_of Tryz.func56 (by kernel_rfl) rfl)
    (parts_stops 8 (w.heap.size + 1 + 1 + 1 + 1) x p m c hm h9 hs W0 (by omega) bP (hx.stay hB0)) keptE_t (fun W l o o' _ h hc _ => keptE_b W l o o' h hc) (Below.refl _ _) (fun _ => rfl)
    (NmI w.heap.size (w.heap.size + 1) (w.heap.size + 1 + 1) (w.heap.size + 1 + 1 + 1) W0.heap.size w)
    (fun _ _ _ => False)
    (nmI_own _ _ _ _ _ _ _ (Nat.le_refl _) (by omega) (by omega))
    (fun _ _ _ _ _ hs _ _ => hs)
    ⟨⟨_, bN, World.ownsRow_nil .., by simp [found, ddp]⟩, hM, bM, hB0, Nat.le_refl _⟩
    (fun t a' W => ∃ Bx, W0.heap.size ≤ Bx ∧ Blk W Bx (.int .i64 t.1.1.k) (.int .i64 t.1.1.op) (.int .i64 t.1.1.n) (.string (bstr t.1.1.nm)) (.slice t.1.2.1 t.1.1.ks.length t.1.2.2) (.int .i64 t.1.1.a) ∧ ∃ u : Nat → Value, a' = { tmps := #[u 0, u 1, u 2, .pointer (some ⟨w.heap.size + 1, 0, none⟩), .pointer (some ⟨w.heap.size + 1 + 1 + 1, 0, none⟩), .pointer (some ⟨Bx, 0, none⟩), u 6, u 7, u 8, u 9, u 10, u 11, u 12, u 13, u 14, u 15, u 16, u 17, u 18, u 19, u 20, u 21, u 22, u 23, u 24, u 25, u 26, u 27, u 28, u 29, u 30, u 31, u 32, u 33, u 34], defers := [] })
    (fun t a' _ A B row hs hg hr => by
      obtain ⟨Bx, h1, h2, u, h4⟩ := hs
      exact ⟨Bx, h1, blk_own _ _ _ _ _ _ _ h2 hg (fun r e => (hr r e).2), u, h4⟩)
    ?assign ?body ?done ?stop
  case assign =>
    rintro l pre t W K hI hK
    obtain ⟨⟨v, h1, h2, h3⟩, h4, h5, h6, h7⟩ := hI
    have hsW := h6.size
    gi_wp2
    exact hK _ _ (keepsFrom_below ((Below.refl _ _).alloc (Nat.le_refl _) _)) ((KeptE.refl _).alloc _) ⟨⟨v, h1.alloc _, h2.alloc _, h3⟩, h4.alloc _, h5.alloc _, h6.alloc hsW _, by simp; omega⟩ ⟨W.heap.size, h7, Blk.new rfl _ _ _ _ _ _, by apply act_nm⟩
  case body =>
    rintro l pre t a' W hl hr hI ⟨Bx, hBx, bX, u, rfl⟩ hlt
    obtain ⟨⟨v, h1, h2, h3⟩, h4, h5, h6, h7⟩ := hI
    have hsW := h6.size
    obtain ⟨blx, c0x, c1x, c2x, c3x, c4x, c5x, f0x, f1x, f2x, f3x, f4x, f5x⟩ := (bX).facts
    have hfl := found_len pre
    by_cases hn : t.1.1.k = 2 ∨ t.1.1.k = 3 ∨ t.1.1.k = 7
    case neg =>
      have hN : Hid (∀ W, Calls Tryz.prog 28 #[.int .i64 t.1.1.k] W fun e w' => e = .returned (.bool false) ∧ w' = W) := Lib.hid fun W => by
        have := named_any t.1.1.k W
        rwa [decide_eq_false hn] at this
      have HI := Lib.hid (show NmI w.heap.size (w.heap.size + 1) (w.heap.size + 1 + 1) (w.heap.size + 1 + 1 + 1) W0.heap.size w (pre ++ [t]) W by
        unfold NmI
        rw [found_not hn]
        exact ⟨⟨v, h1, h2, h3⟩, h4, h5, h6, h7⟩)
      clear hn
      gi_wp2_with (refine ⟨trivial, ?_⟩; gi_at_call 28; (with_reducible refine (CallsIn.inRound l (callsIn_wide.2 (hN.out _))).mono ?_); rintro e W ⟨rfl, rfl⟩)
      exact ⟨KeepsFrom.refl _ _, KeptE.refl _, HI.out⟩
    have hN : Hid (∀ W, Calls Tryz.prog 28 #[.int .i64 t.1.1.k] W fun e w' => e = .returned (.bool true) ∧ w' = W) := Lib.hid fun W => by
      have := named_any t.1.1.k W
      rwa [decide_eq_true hn] at this
    have cM := h5.cell
    have lM := h5.lt
    have lN := h1.lt
    have hsz : (bstr t.1.1.nm).size ≤ maxLen := by
      have := t.2
      unfold maxLen
      show t.1.1.nm.toArray.size ≤ _
      rw [List.size_toArray]
      omega
    by_cases hk : t.1.1.nm ∈ found pre
    case pos =>
      have hh : Maps.has (setOf (H := Unit) (.agg []) ((found pre).map Lit.string)) (.string (bstr t.1.1.nm).data.toList) = true := by
        rw [has_names]
        exact decide_eq_true hk
      have HH := Lib.hid hh
      have HI := Lib.hid (show NmI w.heap.size (w.heap.size + 1) (w.heap.size + 1 + 1) (w.heap.size + 1 + 1 + 1) W0.heap.size w (pre ++ [t]) W by
        unfold NmI
        rw [found_old hn hk]
        exact ⟨⟨v, h1, h2, h3⟩, h4, h5, h6, h7⟩)
      clear hn hk hh
      gi_wp2_with (first
        | (refine ⟨trivial, ?_⟩; gi_at_call 28; (with_reducible refine (CallsIn.inRound l (callsIn_wide.2 (hN.out _))).mono ?_); rintro e W ⟨rfl, rfl⟩)
        | (gi_at_lookup; refine wpListIn_lookup_own_unit _ rfl _ _ 69 rfl 9 74 keyedS Tryz.underlying69 (zero_unit _) (w.heap.size + 1 + 1) _ _ rfl h4 _ _ rfl (keyOf_string_mk Tryz.underlying9 hsz) ?_; rw [HH.out]))
      exact ⟨keepsFrom_below ((Below.refl _ _).alloc (Nat.le_refl _) _), (KeptE.refl _).alloc _, HI.out.alloc (Nat.le_refl _) _⟩
    have hh : Maps.has (setOf (H := Unit) (.agg []) ((found pre).map Lit.string)) (.string (bstr t.1.1.nm).data.toList) = false := by
      rw [has_names]
      exact decide_eq_false hk
    have HH := Lib.hid hh
    have HF : Hid (found (pre ++ [t]) = found pre ++ [t.1.1.nm]) := Lib.hid (found_new hn hk)
    have hlen : (found pre).length < maxLen := by (unfold maxLen; omega)
    clear hn hk hh
    gi_wp2_with (first
      | (refine ⟨trivial, ?_⟩; gi_at_call 28; (with_reducible refine (CallsIn.inRound l (callsIn_wide.2 (hN.out _))).mono ?_); rintro e W ⟨rfl, rfl⟩)
      | (gi_at_lookup; refine wpListIn_lookup_own_unit _ rfl _ _ 69 rfl 9 74 keyedS Tryz.underlying69 (zero_unit _) (w.heap.size + 1 + 1) _ _ rfl h4 _ _ rfl (keyOf_string_mk Tryz.underlying9 hsz) ?_; rw [HH.out])
      | (gi_at_mapUpdate; refine wpListIn_mapUpdate_own _ rfl _ _ _ 69 rfl 9 74 keyedS Tryz.underlying69 _ (w.heap.size + 1 + 1) _ _ rfl (h4.alloc (.cells #[] 74)) hlen _ _ _ rfl rfl (keyOf_string_mk Tryz.underlying9 hsz) _ [] unitElem_mk ?_; intro w4 hown4 hgrow4))
    obtain ⟨i0, hi0, hz0, hz1, hz2⟩ := info_parts infoS
    have hgW : (W.alloc (.cells #[] 74)).grownBy w4 (some (w.heap.size + 1 + 1)) := hgrow4
    have hN4 : Boxed w4 (w.heap.size + 1) 29 v := (h1.alloc _).kept hgW (by simp)
    have hR4 : w4.ownsRow w.heap.size 9 1 v (found pre).length ((found pre).map strV) := (h2.alloc _).kept hgW (by
      rcases (h2.alloc (.cells #[] 74)).2 with ⟨e, _⟩ | ⟨g, cap, cur, e, _, hgb, _⟩
      · exact .inl (by rw [e]; rfl)
      · refine .inr (fun e2 => ?_)
        rw [e] at e2
        obtain ⟨es, clock, hb, _⟩ := h4.alloc (.cells #[] 74)
        have : g = w.heap.size + 1 + 1 := by simpa [Value.ownBlock] using e2
        rw [this, hb] at hgb
        cases hgb)
    have hM4 : Boxed w4 (w.heap.size + 1 + 1 + 1) 69 (.map (some (w.heap.size + 1 + 1))) := (h5.alloc _).kept hgW (by simp)
    have hX4 : Blk w4 Bx (.int .i64 t.1.1.k) (.int .i64 t.1.1.op) (.int .i64 t.1.1.n) (.string (bstr t.1.1.nm)) (.slice t.1.2.1 t.1.1.ks.length t.1.2.2) (.int .i64 t.1.1.a) := (World.grownBy.block hgW Bx (by simp; omega) (by simp; omega)).trans (bX.alloc _)
    have hB4 : Below w.heap.size W w4 := ((Below.refl _ W).alloc hsW _).grown hgW (by simp; omega) (fun k e => by cases e; omega)
    have hK4 : KeptE W w4 := ((KeptE.refl W).alloc _).step (.grow hgW (map_not (h4.alloc _)))
    have hF4 : KeepsFrom W0.heap.size W w4 := ((KeepsOthers.alloc W _).from _).trans (KeepsFrom.of_grownBy hgW (fun j e => by cases e; omega))
    have hs4 : W.heap.size + 1 ≤ w4.heap.size := by (have := World.grownBy.size hgW; simpa using this)
    have cN4 := hN4.cell
    have lN4 := hN4.lt
    have hbx := hX4.facts
    have HX := Lib.hid bX
    clear bX blx c0x c1x c2x c3x c4x c5x f0x f1x f2x f3x f4x f5x cM lM lN hgrow4
    obtain ⟨blz, -, -, -, c3z, -⟩ := hbx
    have HI1 := Lib.hid (And.intro h6 (And.intro h7 h3))
    clear h1 h2 h3 h4 h5
    have hC : Hid (Calls Tryz.prog 29 #[.string (bstr t.1.1.nm)] w4.drew fun e w' => e = .returned (.string (bstr t.1.1.nm)) ∧ Below w4.heap.size w4 w') := Lib.hid ((clone_any (bstr t.1.1.nm) w4.drew (by
      have := t.2
      show t.1.1.nm.toArray.size ≤ _
      rw [List.size_toArray]
      omega)).mono fun e w' h => ⟨h.1, ((Below.refl _ w4).drew).trans h.2⟩)
    have HU := Lib.hid (show Value.oneCell' (strV t.1.1.nm) = true by rfl)
    refine wpIn_region_any (by kernel_rfl) ?_
    change wpAnyIn _ _ _ _ _ _ _ _ _ (World.drew _)
    refine wpAnyIn_ready (rs := [0, 1]) (by kernel_rfl) (by simp) (AllReadyIn.cons rfl (fun K hK => ?_) (AllReadyIn.cons rfl (fun K hK => ?_) AllReadyIn.nil)) <;> (go_simp; refine hK _ _ ?_; clear hK K)
    · refine anyIn_tail 1 rfl (by kernel_rfl) ?_
      simp only [List.drop_succ_cons, List.drop_zero]
      gi_wp2_with (first | (refine ⟨trivial, ?_⟩; gi_at_call 29; (with_reducible refine (CallsIn.inRound l (callsIn_wide.2 hC.out)).mono ?_); rintro e w5 ⟨rfl, hb5⟩; have hN5 : Boxed w5 (w.heap.size + 1) 29 v := (hb5.block _ lN4).trans hN4; have hz5 := hb5.size; have cN5 := hN5.cell; have lN5 := hN5.lt; have hR5 := hR4.kept (row := none) ⟨hb5.os, hb5.tape, hb5.output, hb5.size, fun i hi _ => hb5.block i hi⟩ (by cases hv : v.ownBlock <;> simp)) | (gi_at_builtin; refine wpListIn_append_own _ rfl _ _ 29 rfl w.heap.size 9 i0 (.string ⟨#[]⟩) 1 16 Tryz.underlying29 hi0 hz0 hz1 hz2 rfl (by decide) _ _ _ rfl (hR5.alloc _) ⟨w5.heap.size, 0, none⟩ 1 1 [strV t.1.1.nm] rfl rfl (cell_one_new _ _ _) (by simp [Value.oneCell', strV]) (by omega) (by omega) (by simp; omega) ?_; intro v' w6 hown' hgrow6 _; obtain ⟨g', cap', rfl⟩ := ownsRow_succ hown'; obtain ⟨hv1, -⟩ := hN5.appended (by decide) hR5 (by omega) (by omega) hown' hgrow6; have hc1 := hv1.cell; have hf1 := hv1.frozen))
      exact leaf_end HF hsW HI1.out.1 HI1.out.2.1 hB4 hK4 hF4 hown4 hM4 hb5 hN5 hR5 hown' hgrow6 (by simp) (by omega) (by omega) (by omega) _
    · refine wpAnyIn_ready (rs := [0, 2]) (by kernel_rfl) (by simp) (AllReadyIn.cons rfl (fun K hK => ?_) (AllReadyIn.cons rfl (fun K hK => ?_) AllReadyIn.nil)) <;> (go_simp; refine hK _ _ ?_; clear hK K)
      · refine anyIn_tail 2 rfl (by kernel_rfl) ?_
        simp only [List.drop_succ_cons, List.drop_zero]
        gi_wp2_with (first | (refine ⟨trivial, ?_⟩; gi_at_call 29; (with_reducible refine (CallsIn.inRound l (callsIn_wide.2 hC.out)).mono ?_); rintro e w5 ⟨rfl, hb5⟩; have hN5 : Boxed w5 (w.heap.size + 1) 29 v := (hb5.block _ lN4).trans hN4; have hz5 := hb5.size; have cN5 := hN5.cell; have lN5 := hN5.lt; have hR5 := hR4.kept (row := none) ⟨hb5.os, hb5.tape, hb5.output, hb5.size, fun i hi _ => hb5.block i hi⟩ (by cases hv : v.ownBlock <;> simp)) | (gi_at_builtin; refine wpListIn_append_own _ rfl _ _ 29 rfl w.heap.size 9 i0 (.string ⟨#[]⟩) 1 16 Tryz.underlying29 hi0 hz0 hz1 hz2 rfl (by decide) _ _ _ rfl (hR5.alloc _) ⟨w5.heap.size, 0, none⟩ 1 1 [strV t.1.1.nm] rfl rfl (cell_one_new _ _ _) (by simp [Value.oneCell', strV]) (by omega) (by omega) (by simp; omega) ?_; intro v' w6 hown' hgrow6 _; obtain ⟨g', cap', rfl⟩ := ownsRow_succ hown'; obtain ⟨hv1, -⟩ := hN5.appended (by decide) hR5 (by omega) (by omega) hown' hgrow6; have hc1 := hv1.cell; have hf1 := hv1.frozen))
        exact leaf_end HF hsW HI1.out.1 HI1.out.2.1 hB4 hK4 hF4 hown4 hM4 hb5 hN5 hR5 hown' hgrow6 (by simp) (by omega) (by omega) (by omega) _
      · refine wpAnyIn_ready (rs := [0, 3]) (by kernel_rfl) (by simp) (AllReadyIn.cons rfl (fun K hK => ?_) (AllReadyIn.cons rfl (fun K hK => ?_) AllReadyIn.nil))
        · go_simp; refine hK _ _ ?_; clear hK K
          · refine anyIn_tail 3 rfl (by kernel_rfl) ?_
            simp only [List.drop_succ_cons, List.drop_zero]
            gi_wp2_with (first | (refine ⟨trivial, ?_⟩; gi_at_call 29; (with_reducible refine (CallsIn.inRound l (callsIn_wide.2 hC.out)).mono ?_); rintro e w5 ⟨rfl, hb5⟩; have hN5 : Boxed w5 (w.heap.size + 1) 29 v := (hb5.block _ lN4).trans hN4; have hz5 := hb5.size; have cN5 := hN5.cell; have lN5 := hN5.lt; have hR5 := hR4.kept (row := none) ⟨hb5.os, hb5.tape, hb5.output, hb5.size, fun i hi _ => hb5.block i hi⟩ (by cases hv : v.ownBlock <;> simp)) | (gi_at_builtin; refine wpListIn_append_own _ rfl _ _ 29 rfl w.heap.size 9 i0 (.string ⟨#[]⟩) 1 16 Tryz.underlying29 hi0 hz0 hz1 hz2 rfl (by decide) _ _ _ rfl (hR5.alloc _) ⟨w5.heap.size, 0, none⟩ 1 1 [strV t.1.1.nm] rfl rfl (cell_one_new _ _ _) (by simp [Value.oneCell', strV]) (by omega) (by omega) (by simp; omega) ?_; intro v' w6 hown' hgrow6 _; obtain ⟨g', cap', rfl⟩ := ownsRow_succ hown'; obtain ⟨hv1, -⟩ := hN5.appended (by decide) hR5 (by omega) (by omega) hown' hgrow6; have hc1 := hv1.cell; have hf1 := hv1.frozen))
            exact leaf_end HF hsW HI1.out.1 HI1.out.2.1 hB4 hK4 hF4 hown4 hM4 hb5 hN5 hR5 hown' hgrow6 (by simp) (by omega) (by omega) (by omega) _
        · go_simp
          refine ⟨trivial, ?_⟩; gi_at_call 29; (with_reducible refine (CallsIn.inRound l (callsIn_wide.2 hC.out)).mono ?_); rintro e w5 ⟨rfl, hb5⟩; have hN5 : Boxed w5 (w.heap.size + 1) 29 v := (hb5.block _ lN4).trans hN4; have hz5 := hb5.size; have cN5 := hN5.cell; have lN5 := hN5.lt; have hR5 := hR4.kept (row := none) ⟨hb5.os, hb5.tape, hb5.output, hb5.size, fun i hi _ => hb5.block i hi⟩ (by cases hv : v.ownBlock <;> simp)
          refine hK _ _ ?_
          clear hK K
          refine wpAnyIn_ready (rs := [0, 4]) (by kernel_rfl) (by simp) (AllReadyIn.cons rfl (fun K hK => ?_) (AllReadyIn.cons rfl (fun K hK => ?_) AllReadyIn.nil)) <;> (go_simp; refine hK _ _ ?_; clear hK K)
          · refine anyIn_tail 4 rfl (by kernel_rfl) ?_
            simp only [List.drop_succ_cons, List.drop_zero]
            gi_wp2_with (first | (gi_at_builtin; refine wpListIn_append_own _ rfl _ _ 29 rfl w.heap.size 9 i0 (.string ⟨#[]⟩) 1 16 Tryz.underlying29 hi0 hz0 hz1 hz2 rfl (by decide) _ _ _ rfl (hR5.alloc _) ⟨w5.heap.size, 0, none⟩ 1 1 [strV t.1.1.nm] rfl rfl (cell_one_new _ _ _) (by simp [Value.oneCell', strV]) (by omega) (by omega) (by simp; omega) ?_; intro v' w6 hown' hgrow6 _; obtain ⟨g', cap', rfl⟩ := ownsRow_succ hown'; obtain ⟨hv1, -⟩ := hN5.appended (by decide) hR5 (by omega) (by omega) hown' hgrow6; have hc1 := hv1.cell; have hf1 := hv1.frozen))
            exact leaf_end HF hsW HI1.out.1 HI1.out.2.1 hB4 hK4 hF4 hown4 hM4 hb5 hN5 hR5 hown' hgrow6 (by simp) (by omega) (by omega) (by omega) _
          · refine wpAnyIn_ready (rs := [0]) (by kernel_rfl) (by simp) (AllReadyIn.cons rfl (fun K hK => ?_) AllReadyIn.nil)
            go_simp; refine hK _ _ ?_; clear hK K
            · refine anyIn_tail 5 rfl (by kernel_rfl) ?_
              simp only [List.drop_succ_cons, List.drop_zero]
              gi_wp2_with (first | (gi_at_builtin; refine wpListIn_append_own _ rfl _ _ 29 rfl w.heap.size 9 i0 (.string ⟨#[]⟩) 1 16 Tryz.underlying29 hi0 hz0 hz1 hz2 rfl (by decide) _ _ _ rfl (hR5.alloc _) ⟨w5.heap.size, 0, none⟩ 1 1 [strV t.1.1.nm] rfl rfl (cell_one_new _ _ _) (by simp [Value.oneCell', strV]) (by omega) (by omega) (by simp; omega) ?_; intro v' w6 hown' hgrow6 _; obtain ⟨g', cap', rfl⟩ := ownsRow_succ hown'; obtain ⟨hv1, -⟩ := hN5.appended (by decide) hR5 (by omega) (by omega) hown' hgrow6; have hc1 := hv1.cell; have hf1 := hv1.frozen))
              exact leaf_end HF hsW HI1.out.1 HI1.out.2.1 hB4 hK4 hF4 hown4 hM4 hb5 hN5 hR5 hown' hgrow6 (by simp) (by omega) (by omega) (by omega) _
  case done =>
    rintro D zs W hD hzs ⟨⟨v, h1, h2, h3⟩, h4, h5, h6, h7⟩ hK
    have hsW := h6.size
    have cN := h1.cell
    have lN := h1.lt
    have hf : found zs = ddp x.nms := by
      unfold found
      rw [hzs, ← nms_pre]
    rw [hf] at h2
    obtain ⟨q, k, c', rfl⟩ : ∃ q k c', v = .slice q k c' := by
      rcases h2.2 with ⟨e, _⟩ | ⟨g, cap, cur, e, _⟩
      · exact ⟨_, _, _, e⟩
      · exact ⟨_, _, _, e⟩
    have H2 := Lib.hid h2
    clear h2 h3 h4 hf hzs
    gi_wp2
    refine ⟨by simp, .inl ⟨_, _, rfl, run_takeDeferred hK, ?_⟩⟩
    exact ⟨_, results_tmp rfl _ _ _, _, _, _, rfl, ownsRow_putObj H2.out _ hK rfl, h6.trans (belowK_b (w := w) (Nat.le_refl _) W D _ _ (by omega) hK rfl rfl)⟩
  case stop =>
    rintro D c pre W _ _ h _
    exact h.elim
end Go.Proofs.YtngfbpmabdmkeaaGreatDoor
