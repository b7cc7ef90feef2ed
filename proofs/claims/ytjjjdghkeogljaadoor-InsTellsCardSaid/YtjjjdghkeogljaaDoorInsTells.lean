/- InsTells comes out true for every instruction and every place: no condition but what the card itself says of the listed variables. -/
import Derived.Test.YtjjjdghkeogljaaDoorAwB
import Derived.Test.YtjjjdghkeogljaaDoorStm
import Derived.Test.YtjjjdghkeogljaaDoorOrI
import Derived.Test.YtjjjdghkeogljaaDoorRsC
import Derived.Test.YtjjjdghkeogljaaDoorRnx
import Derived.Test.YtjjjdghkeogljaaDoorRu
import Derived.Test.YtjjjdghkeogljaaDoorLaidI
import Derived.Test.YtjjjdghkeogljaaDoorOpn
import Derived.Test.YtjjjdghkeogljaaDoorTie
import Derived.Test.YtjjjdghkeogljaaDoorCards
import Derived.SevenTiedAt
import Derived.Carry
namespace Go.Proofs.YtjjjdghkeogljaaDoor
set_option linter.unusedSimpArgs false
set_option linter.unusedVariables false
namespace InsTells
open Go Go.ChangeShapes Go.WideShapes Go.ChangeAt Go.WideMaps Go.WideElems Go.RowKit Go.Sort
open Go.ChangeMaps (open_string shut_string)

theorem below_box (W : World) (o : Obj) : Below W.heap.size W (W.alloc o) := (Below.refl _ _).alloc (Nat.le_refl _) _
def dstT (k : Nat) : Nat := if k = 28 then 4 else 15 + k
theorem dstT_inj {i k : Nat} (h : dstT i = dstT k) (hi : i < 29) (hk : k < 29) : i = k := by
  unfold dstT at h
  split at h <;> split at h <;> omega
def PrT (x : Ic) (ul nl : List Int) (dd : Int) (st : ByteArray) (p : Int) (k : Nat) (v : Value) (X : World) : Prop :=
  match k with
  | 0 => v = .agg #[.int .i64 x.k, .int .i64 x.o, .int .i64 x.d, .int .i64 x.a, .int .i64 x.b, .int .i64 x.n, .int .i64 x.t]
  | 1 => ∃ B, Rw B X v ul
  | 2 => v = .agg #[.int .i64 x.k, .int .i64 x.o, .int .i64 x.d, .int .i64 x.a, .int .i64 x.b, .int .i64 x.n, .int .i64 x.t]
  | 3 => ∃ B, Rw B X v ul
  | 4 => v = .bool true
  | 5 => v = .bool true
  | 6 => v = .agg #[.int .i64 x.k, .int .i64 x.o, .int .i64 x.d, .int .i64 x.a, .int .i64 x.b, .int .i64 x.n, .int .i64 x.t]
  | 7 => v = .int .i64 dd
  | 8 => v = .agg #[.int .i64 x.k, .int .i64 x.o, .int .i64 x.d, .int .i64 x.a, .int .i64 x.b, .int .i64 x.n, .int .i64 x.t]
  | 9 => v = .int .i64 dd
  | 10 => v = .bool true
  | 11 => v = .bool true
  | 12 => v = .bool true
  | 13 => v = .agg #[.int .i64 x.k, .int .i64 x.o, .int .i64 x.d, .int .i64 x.a, .int .i64 x.b, .int .i64 x.n, .int .i64 x.t]
  | 14 => v = .int .i64 p
  | 15 => ∃ B, Rw B X v nl
  | 16 => v = .agg #[.int .i64 x.k, .int .i64 x.o, .int .i64 x.d, .int .i64 x.a, .int .i64 x.b, .int .i64 x.n, .int .i64 x.t]
  | 17 => v = .int .i64 p
  | 18 => ∃ B, Rw B X v nl
  | 19 => v = .bool true
  | 20 => v = .bool true
  | 21 => v = .bool true
  | 22 => v = .agg #[.int .i64 x.k, .int .i64 x.o, .int .i64 x.d, .int .i64 x.a, .int .i64 x.b, .int .i64 x.n, .int .i64 x.t]
  | 23 => v = .string st
  | 24 => v = .agg #[.int .i64 x.k, .int .i64 x.o, .int .i64 x.d, .int .i64 x.a, .int .i64 x.b, .int .i64 x.n, .int .i64 x.t]
  | 25 => v = .string st
  | 26 => v = .bool true
  | 27 => v = .bool true
  | 28 => v = .bool true
  | _ => True
theorem PrT.stay {x : Ic} {ul nl : List Int} {dd : Int} {st : ByteArray} {p : Int} {X Y : World} (hb : Below X.heap.size X Y) (j : Nat) (u : Value) (hj : j < 29) (h : PrT x ul nl dd st p j u X) : PrT x ul nl dd st p j u Y := by
  have hcase : j = 0 ∨ j = 1 ∨ j = 2 ∨ j = 3 ∨ j = 4 ∨ j = 5 ∨ j = 6 ∨ j = 7 ∨ j = 8 ∨ j = 9 ∨ j = 10 ∨ j = 11 ∨ j = 12 ∨ j = 13 ∨ j = 14 ∨ j = 15 ∨ j = 16 ∨ j = 17 ∨ j = 18 ∨ j = 19 ∨ j = 20 ∨ j = 21 ∨ j = 22 ∨ j = 23 ∨ j = 24 ∨ j = 25 ∨ j = 26 ∨ j = 27 ∨ j = 28 := by omega
  rcases hcase with rfl | rfl | rfl | rfl | rfl | rfl | rfl | rfl | rfl | rfl | rfl | rfl | rfl | rfl | rfl | rfl | rfl | rfl | rfl | rfl | rfl | rfl | rfl | rfl | rfl | rfl | rfl | rfl | rfl
  · exact h
  · exact h.imp fun _ q => q.stay hb
  · exact h
  · exact h.imp fun _ q => q.stay hb
  · exact h
  · exact h
  · exact h
  · exact h
  · exact h
  · exact h
  · exact h
  · exact h
  · exact h
  · exact h
  · exact h
  · exact h.imp fun _ q => q.stay hb
  · exact h
  · exact h
  · exact h.imp fun _ q => q.stay hb
  · exact h
  · exact h
  · exact h
  · exact h
  · exact h
  · exact h
  · exact h
  · exact h
  · exact h
  · exact h
theorem put29 {x : Ic} {ul nl : List Int} {dd : Int} {st : ByteArray} {p : Int} {t0 : Array Value} {listed : Array Bool} {a : Act} {X Y : World} (h : InP 29 43 dstT (PrT x ul nl dd st p) t0 listed a X) (k d : Nat) (v : Value) (hk : k < 29) (hd : dstT k = d) (hb : Below X.heap.size X Y) (hv : PrT x ul nl dd st p k v Y) : InP 29 43 dstT (PrT x ul nl dd st p) t0 (listed.setIfInBounds k true) (a.put (some d) v) Y := by
  subst hd
  exact h.put hk (by unfold dstT; split <;> omega) (fun i hi e => dstT_inj e hi hk) (fun j u hj q => q.stay hb j u hj) hv
theorem none_yet : ∀ k, k < 29 → (Array.replicate 29 false).getD k false = false := by decide
theorem next_is {x : Ic} {p : Int} {l : List Int} (e : nextM x p = l) (w : World) (hp0 : 0 ≤ p) (hp1 : p ≤ 1099511627776) (T : Kinds w) : Calls Tryd.prog 13 #[.agg #[.int .i64 x.k, .int .i64 x.o, .int .i64 x.d, .int .i64 x.a, .int .i64 x.b, .int .i64 x.n, .int .i64 x.t], .int .i64 p] w (RowP w l) := e ▸ next_any x p w hp0 hp1 T
theorem uses_is {x : Ic} {l : List Int} (e : usesM x = l) (w : World) (T : Kinds w) : Calls Tryd.prog 9 #[.agg #[.int .i64 x.k, .int .i64 x.o, .int .i64 x.d, .int .i64 x.a, .int .i64 x.b, .int .i64 x.n, .int .i64 x.t]] w (RowP w l) := e ▸ uses_any x w T
theorem def_is {x : Ic} {d : Int} (e : defM x = d) (w : World) (T : Kinds w) : Calls Tryd.prog 11 #[.agg #[.int .i64 x.k, .int .i64 x.o, .int .i64 x.d, .int .i64 x.a, .int .i64 x.b, .int .i64 x.n, .int .i64 x.t]] w fun e w' => e = .returned (.int .i64 d) ∧ Below w.heap.size w w' := e ▸ def_any x w T
theorem rnext_is {x : Ic} {p : Int} {l : List Int} (e : nextM x p = l) (w : World) (hp0 : 0 ≤ p) (hp1 : p ≤ 1099511627776) : Calls Tryd.prog 14 #[.agg #[.int .i64 x.k, .int .i64 x.o, .int .i64 x.d, .int .i64 x.a, .int .i64 x.b, .int .i64 x.n, .int .i64 x.t], .int .i64 p] w (RowP w l) := e ▸ rnext_any x p w hp0 hp1
theorem ruse_is {x : Ic} {l : List Int} (e : usesM x = l) (w : World) : Calls Tryd.prog 10 #[.agg #[.int .i64 x.k, .int .i64 x.o, .int .i64 x.d, .int .i64 x.a, .int .i64 x.b, .int .i64 x.n, .int .i64 x.t]] w (RowP w l) := e ▸ ruses_is x w
theorem rdef_is {x : Ic} {d : Int} (e : defM x = d) (w : World) : Calls Tryd.prog 12 #[.agg #[.int .i64 x.k, .int .i64 x.o, .int .i64 x.d, .int .i64 x.a, .int .i64 x.b, .int .i64 x.n, .int .i64 x.t]] w fun e w' => e = .returned (.int .i64 d) ∧ Below w.heap.size w w' := e ▸ rdef_any x w
theorem rsho_is {x : Ic} {t : ByteArray} (e : showM x = t) (w : World) (h : Hid (Ok6 x)) : Calls Tryd.prog 16 #[.agg #[.int .i64 x.k, .int .i64 x.o, .int .i64 x.d, .int .i64 x.a, .int .i64 x.b, .int .i64 x.n, .int .i64 x.t]] w fun e w' => e = .returned (.string t) ∧ Below w.heap.size w w' := e ▸ rshow_any x w h
set_option maxRecDepth 100000 in
set_option maxHeartbeats 1500000 in
theorem walk_out (x : Ic) (p : Int) (h : p < 0 ∨ 1099511627776 < p) (W : World) (L : Hid (Laid W)) : Calls Tryd.prog 3 #[.agg #[.int .i64 x.k, .int .i64 x.o, .int .i64 x.d, .int .i64 x.a, .int .i64 x.b, .int .i64 x.n, .int .i64 x.t], .int .i64 p] W fun e w' => e = .returned (.bool true) ∧ Below W.heap.size W w' := by
  go_enter Tryd.func3, Tryd.ntmps3
  rcases h with h | h
  · have d1 : decide (p < 0) = true := by simpa using h
    go_wp2_with (go_at_call 7; (with_reducible refine (awake_any _ (Lib.hid (L.out.below (below_box _ _)))).mono ?_); rintro e' w1 ⟨rfl, hb1⟩; have hB := below_ch (below_box _ _) hb1; clear hb1)
    go_ret
    exact ⟨rfl, hB⟩
  · have d1 : decide (p < 0) = false := by simp; omega
    have d2 : decide (1099511627776 < p) = true := by simpa using h
    go_wp2_with (go_at_call 7; (with_reducible refine (awake_any _ (Lib.hid (L.out.below (below_box _ _)))).mono ?_); rintro e' w1 ⟨rfl, hb1⟩; have hB := below_ch (below_box _ _) hb1; clear hb1)
    go_ret
    exact ⟨rfl, hB⟩
set_option maxRecDepth 100000 in
set_option maxHeartbeats 4000000 in
theorem walk_in (x : Ic) (hx : Hid (Ok6 x)) (p : Int) (hp0 : 0 ≤ p) (hp1 : p ≤ 1099511627776) (W : World) (L : Hid (Laid W)) (ul nl : List Int) (dd : Int) (st : ByteArray) (U1 : Hid (usesM x = ul)) (N1 : Hid (nextM x p = nl)) (D1 : Hid (defM x = dd)) (S1 : Hid (showM x = st)) (hul : ul.length ≤ 1000000) (hnl : nl.length ≤ 1000000) : Calls Tryd.prog 3 #[.agg #[.int .i64 x.k, .int .i64 x.o, .int .i64 x.d, .int .i64 x.a, .int .i64 x.b, .int .i64 x.n, .int .i64 x.t], .int .i64 p] W fun e w' => e = .returned (.bool true) ∧ Below W.heap.size W w' := by
  have d1 : decide (p < 0) = false := by simp; omega
  have d2 : decide (1099511627776 < p) = false := by simp; omega
  go_enter Tryd.func3, Tryd.ntmps3
  go_upto_region 6 with (go_at_call 7; (with_reducible refine (awake_any _ (Lib.hid (L.out.below (below_box _ _)))).mono ?_); rintro e' w1 ⟨rfl, hb1⟩; have HB1 := Lib.hid (below_ch (below_box _ _) hb1); have HI1 := Lib.hid ((Ib.new (X := W) rfl (.int .i64 x.k) (.int .i64 x.o) (.int .i64 x.d) (.int .i64 x.a) (.int .i64 x.b) (.int .i64 x.n) (.int .i64 x.t)).stay hb1); clear hb1)
  refine name_world ?_
  intro W6 hW6
  have HW : Hid (Below W.heap.size W W6) := Lib.hid (by rw [hW6]; first | exact HB1.out | exact below_drewN HB1.out _)
  have HI : Hid (Ib W6 W.heap.size (.int .i64 x.k) (.int .i64 x.o) (.int .i64 x.d) (.int .i64 x.a) (.int .i64 x.b) (.int .i64 x.n) (.int .i64 x.t)) := Lib.hid (by rw [hW6]; exact HI1.out)
  have L6 := Lib.hid (L.out.below HW.out)
  clear hW6 HB1 HI1
  have HU : Hid (∀ X, Below W6.heap.size W6 X → Calls Tryd.prog 9 #[.agg #[.int .i64 x.k, .int .i64 x.o, .int .i64 x.d, .int .i64 x.a, .int .i64 x.b, .int .i64 x.n, .int .i64 x.t]] X (RowP X ul)) := Lib.hid (fun X hX => uses_is U1.out X (L6.out.below hX).kin)
  have HN : Hid (∀ X, Below W6.heap.size W6 X → Calls Tryd.prog 13 #[.agg #[.int .i64 x.k, .int .i64 x.o, .int .i64 x.d, .int .i64 x.a, .int .i64 x.b, .int .i64 x.n, .int .i64 x.t], .int .i64 p] X (RowP X nl)) := Lib.hid (fun X hX => next_is N1.out X hp0 hp1 (L6.out.below hX).kin)
  have HD : Hid (∀ X, Below W6.heap.size W6 X → Calls Tryd.prog 11 #[.agg #[.int .i64 x.k, .int .i64 x.o, .int .i64 x.d, .int .i64 x.a, .int .i64 x.b, .int .i64 x.n, .int .i64 x.t]] X fun e w' => e = .returned (.int .i64 dd) ∧ Below X.heap.size X w') := Lib.hid (fun X hX => def_is D1.out X (L6.out.below hX).kin)
  have HS : Hid (∀ X, Below W6.heap.size W6 X → Calls Tryd.prog 15 #[.agg #[.int .i64 x.k, .int .i64 x.o, .int .i64 x.d, .int .i64 x.a, .int .i64 x.b, .int .i64 x.n, .int .i64 x.t]] X fun e w' => e = .returned (.string st) ∧ Below X.heap.size X w') := Lib.hid (fun X hX => show_is S1.out X (Lib.hid (L6.out.below hX)) hx)
  have HRU : Hid (∀ X, Calls Tryd.prog 10 #[.agg #[.int .i64 x.k, .int .i64 x.o, .int .i64 x.d, .int .i64 x.a, .int .i64 x.b, .int .i64 x.n, .int .i64 x.t]] X (RowP X ul)) := Lib.hid (fun X => ruse_is U1.out X)
  have HRN : Hid (∀ X, Calls Tryd.prog 14 #[.agg #[.int .i64 x.k, .int .i64 x.o, .int .i64 x.d, .int .i64 x.a, .int .i64 x.b, .int .i64 x.n, .int .i64 x.t], .int .i64 p] X (RowP X nl)) := Lib.hid (fun X => rnext_is N1.out X hp0 hp1)
  have HRD : Hid (∀ X, Calls Tryd.prog 12 #[.agg #[.int .i64 x.k, .int .i64 x.o, .int .i64 x.d, .int .i64 x.a, .int .i64 x.b, .int .i64 x.n, .int .i64 x.t]] X fun e w' => e = .returned (.int .i64 dd) ∧ Below X.heap.size X w') := Lib.hid (fun X => rdef_is D1.out X)
  have HRS : Hid (∀ X, Calls Tryd.prog 16 #[.agg #[.int .i64 x.k, .int .i64 x.o, .int .i64 x.d, .int .i64 x.a, .int .i64 x.b, .int .i64 x.n, .int .i64 x.t]] X fun e w' => e = .returned (.string st) ∧ Below X.heap.size X w') := Lib.hid (fun X => rsho_is S1.out X hx)
  refine name_act ?_
  intro a0 ha0
  have p2 : a0.tmps.getD 2 undef = .pointer (some ⟨W.heap.size, 0, none⟩) := by (rw [ha0]; rfl)
  have p1 : a0.tmps.getD 1 undef = .int .i64 p := by (rw [ha0]; rfl)
  have q1 : a0.tmps.size = 43 := by (rw [ha0]; rfl)
  have q2 : a0.defers = [] := by (rw [ha0])
  clear ha0
  refine wp_region_any (by kernel_rfl) ?_
  refine wpAny_inv (fun listed a X => InP 29 43 dstT (PrT x ul nl dd st p) a0.tmps listed a X ∧ Below W6.heap.size W6 X) ?step ?fin _ _ _ _ ⟨⟨rfl, q1, q2, fun d _ => rfl, fun k hk hl => absurd ((none_yet k hk).symm.trans hl) (by simp)⟩, (Below.refl _ _).drew⟩ (by rfl) (by decide)
  case fin =>
    intro listed a X ⟨h1, h2⟩ hr
    have hl := all_came (by rw [h1.size]; rfl) hr (by decide +kernel) 28 (by decide)
    have h4 : a.tmps.getD 4 undef = .bool true := h1.new 28 (by decide) hl
    have h5 := h1.defs
    clear hr
    have Z := Lib.hid (below_ch HW.out h2)
    obtain ⟨tm, df⟩ := a
    simp only at h4 h5
    subst h5
    have h6 : tm[4]?.getD undef = .bool true := by (rw [← Array.getD_eq_getD_getElem?]; exact h4)
    clear h1 h2 hl h4 p1 p2 q1 q2
    go_wp2
    go_ret
    exact ⟨by first | rfl | (simp [h6]; done), Z.out⟩
  case step =>
    intro listed a X k ⟨h1, h2⟩ hk
    have hlt : k < 29 := List.mem_range.1 (List.mem_filter.1 hk).1
    have hk2 := (List.mem_filter.1 hk).2
    have o2 : a.eval (.tmp 2) = .pointer (some ⟨W.heap.size, 0, none⟩) := (h1.old 2 (by decide)).trans p2
    have o1 : a.eval (.tmp 1) = .int .i64 p := (h1.old 1 (by decide)).trans p1
    have l2 := run_loadVar_row (P := Tryd.prog) X W.heap.size 23 23 _ (0, 0) _ (HI.out.stay h2) Tryd.underlying23 rfl (by kernel_rfl)
    have hcase : k = 0 ∨ k = 1 ∨ k = 2 ∨ k = 3 ∨ k = 4 ∨ k = 5 ∨ k = 6 ∨ k = 7 ∨ k = 8 ∨ k = 9 ∨ k = 10 ∨ k = 11 ∨ k = 12 ∨ k = 13 ∨ k = 14 ∨ k = 15 ∨ k = 16 ∨ k = 17 ∨ k = 18 ∨ k = 19 ∨ k = 20 ∨ k = 21 ∨ k = 22 ∨ k = 23 ∨ k = 24 ∨ k = 25 ∨ k = 26 ∨ k = 27 ∨ k = 28 := by omega
    rcases hcase with rfl | rfl | rfl | rfl | rfl | rfl | rfl | rfl | rfl | rfl | rfl | rfl | rfl | rfl | rfl | rfl | rfl | rfl | rfl | rfl | rfl | rfl | rfl | rfl | rfl | rfl | rfl | rfl | rfl
    · refine wpOp_of rfl rfl ?_
      exact wp_val (run_load rfl o2 l2) ⟨put29 h1 0 15 _ (by decide) rfl (Below.refl _ _) (rfl), h2⟩
    · have hd0 : listed.getD 0 false = true := by simp [Region.binds] at hk2; simp only [Array.getD_eq_getD_getElem?]; simp [hk2]
      have g0 : a.tmps.getD 15 undef = .agg #[.int .i64 x.k, .int .i64 x.o, .int .i64 x.d, .int .i64 x.a, .int .i64 x.b, .int .i64 x.n, .int .i64 x.t] := h1.new 0 (by decide) hd0
      have e0 : a.eval (.tmp 15) = .agg #[.int .i64 x.k, .int .i64 x.o, .int .i64 x.d, .int .i64 x.a, .int .i64 x.b, .int .i64 x.n, .int .i64 x.t] := g0
      refine wpOp_of rfl rfl ?_
      refine wp_enter (f := 9) (args := #[a.eval (.tmp 15)]) ((Go.Conc.run_call_body rfl Tryd.func9 (by kernel_rfl) (by kernel_rfl)).trans (by simp)) ?_
      rw [e0]
      refine (HU.out X h2).mono ?_
      rintro e w' ⟨v, rfl, hr, hb⟩
      exact ⟨v, rfl, put29 h1 1 16 _ (by decide) rfl (hb) (⟨_, hr⟩), h2.trans (hb.mono h2.size)⟩
    · refine wpOp_of rfl rfl ?_
      exact wp_val (run_load rfl o2 l2) ⟨put29 h1 2 17 _ (by decide) rfl (Below.refl _ _) (rfl), h2⟩
    · have hd2 : listed.getD 2 false = true := by simp [Region.binds] at hk2; simp only [Array.getD_eq_getD_getElem?]; simp [hk2]
      have g2 : a.tmps.getD 17 undef = .agg #[.int .i64 x.k, .int .i64 x.o, .int .i64 x.d, .int .i64 x.a, .int .i64 x.b, .int .i64 x.n, .int .i64 x.t] := h1.new 2 (by decide) hd2
      have e2 : a.eval (.tmp 17) = .agg #[.int .i64 x.k, .int .i64 x.o, .int .i64 x.d, .int .i64 x.a, .int .i64 x.b, .int .i64 x.n, .int .i64 x.t] := g2
      refine wpOp_of rfl rfl ?_
      refine wp_enter (f := 10) (args := #[a.eval (.tmp 17)]) ((Go.Conc.run_call_body rfl Tryd.func10 (by kernel_rfl) (by kernel_rfl)).trans (by simp)) ?_
      rw [e2]
      refine (HRU.out X).mono ?_
      rintro e w' ⟨v, rfl, hr, hb⟩
      exact ⟨v, rfl, put29 h1 3 18 _ (by decide) rfl (hb) (⟨_, hr⟩), h2.trans (hb.mono h2.size)⟩
    · have hd1 : listed.getD 1 false = true := by simp [Region.binds] at hk2; simp only [Array.getD_eq_getD_getElem?]; simp [hk2]
      obtain ⟨B1, r1⟩ : ∃ B, Rw B X (a.tmps.getD 16 undef) ul := h1.new 1 (by decide) hd1
      have hd3 : listed.getD 3 false = true := by simp [Region.binds] at hk2; simp only [Array.getD_eq_getD_getElem?]; simp [hk2]
      obtain ⟨B3, r3⟩ : ∃ B, Rw B X (a.tmps.getD 18 undef) ul := h1.new 3 (by decide) hd3
      refine wpOp_of rfl rfl ?_
      refine wp_enter (f := 8) (args := #[a.eval (.tmp 16), a.eval (.tmp 18)]) ((Go.Conc.run_call_body rfl Tryd.func8 (by kernel_rfl) (by kernel_rfl)).trans (by simp)) ?_
      refine (ints_yes r1 r3 hul rfl).mono ?_
      rintro e w' ⟨rfl, hb⟩
      exact ⟨_, rfl, put29 h1 4 19 _ (by decide) rfl (hb) (rfl), h2.trans (hb.mono h2.size)⟩
    · have hd4 : listed.getD 4 false = true := by simp [Region.binds] at hk2; simp only [Array.getD_eq_getD_getElem?]; simp [hk2]
      have g4 : a.tmps.getD 19 undef = .bool true := h1.new 4 (by decide) hd4
      have e4 : a.eval (.tmp 19) = .bool true := g4
      refine wpOp_of rfl rfl ?_
      exact wp_val (run_move (by first | exact .inl rfl | exact .inr rfl) e4) ⟨put29 h1 5 20 _ (by decide) rfl (Below.refl _ _) (rfl), h2⟩
    · have hd5 : listed.getD 5 false = true := by simp [Region.binds] at hk2; simp only [Array.getD_eq_getD_getElem?]; simp [hk2]
      have g5 : a.tmps.getD 20 undef = .bool true := h1.new 5 (by decide) hd5
      have e5 : a.eval (.tmp 20) = .bool true := g5
      refine wpOp_w rfl (by rw [wanted_at rfl rfl rfl g5]; rfl) ?_
      exact wp_val (run_load rfl o2 l2) ⟨put29 h1 6 21 _ (by decide) rfl (Below.refl _ _) (rfl), h2⟩
    · have hd5 : listed.getD 5 false = true := by simp [Region.binds] at hk2; simp only [Array.getD_eq_getD_getElem?]; simp [hk2]
      have g5 : a.tmps.getD 20 undef = .bool true := h1.new 5 (by decide) hd5
      have e5 : a.eval (.tmp 20) = .bool true := g5
      have hd6 : listed.getD 6 false = true := by simp [Region.binds] at hk2; simp only [Array.getD_eq_getD_getElem?]; simp [hk2]
      have g6 : a.tmps.getD 21 undef = .agg #[.int .i64 x.k, .int .i64 x.o, .int .i64 x.d, .int .i64 x.a, .int .i64 x.b, .int .i64 x.n, .int .i64 x.t] := h1.new 6 (by decide) hd6
      have e6 : a.eval (.tmp 21) = .agg #[.int .i64 x.k, .int .i64 x.o, .int .i64 x.d, .int .i64 x.a, .int .i64 x.b, .int .i64 x.n, .int .i64 x.t] := g6
      refine wpOp_w rfl (by rw [wanted_at rfl rfl rfl g5]; rfl) ?_
      refine wp_enter (f := 11) (args := #[a.eval (.tmp 21)]) ((Go.Conc.run_call_body rfl Tryd.func11 (by kernel_rfl) (by kernel_rfl)).trans (by simp)) ?_
      rw [e6]
      refine (HD.out X h2).mono ?_
      rintro e w' ⟨rfl, hb⟩
      exact ⟨_, rfl, put29 h1 7 22 _ (by decide) rfl (hb) (rfl), h2.trans (hb.mono h2.size)⟩
    · have hd5 : listed.getD 5 false = true := by simp [Region.binds] at hk2; simp only [Array.getD_eq_getD_getElem?]; simp [hk2]
      have g5 : a.tmps.getD 20 undef = .bool true := h1.new 5 (by decide) hd5
      have e5 : a.eval (.tmp 20) = .bool true := g5
      refine wpOp_w rfl (by rw [wanted_at rfl rfl rfl g5]; rfl) ?_
      exact wp_val (run_load rfl o2 l2) ⟨put29 h1 8 23 _ (by decide) rfl (Below.refl _ _) (rfl), h2⟩
    · have hd5 : listed.getD 5 false = true := by simp [Region.binds] at hk2; simp only [Array.getD_eq_getD_getElem?]; simp [hk2]
      have g5 : a.tmps.getD 20 undef = .bool true := h1.new 5 (by decide) hd5
      have e5 : a.eval (.tmp 20) = .bool true := g5
      have hd8 : listed.getD 8 false = true := by simp [Region.binds] at hk2; simp only [Array.getD_eq_getD_getElem?]; simp [hk2]
      have g8 : a.tmps.getD 23 undef = .agg #[.int .i64 x.k, .int .i64 x.o, .int .i64 x.d, .int .i64 x.a, .int .i64 x.b, .int .i64 x.n, .int .i64 x.t] := h1.new 8 (by decide) hd8
      have e8 : a.eval (.tmp 23) = .agg #[.int .i64 x.k, .int .i64 x.o, .int .i64 x.d, .int .i64 x.a, .int .i64 x.b, .int .i64 x.n, .int .i64 x.t] := g8
      refine wpOp_w rfl (by rw [wanted_at rfl rfl rfl g5]; rfl) ?_
      refine wp_enter (f := 12) (args := #[a.eval (.tmp 23)]) ((Go.Conc.run_call_body rfl Tryd.func12 (by kernel_rfl) (by kernel_rfl)).trans (by simp)) ?_
      rw [e8]
      refine (HRD.out X).mono ?_
      rintro e w' ⟨rfl, hb⟩
      exact ⟨_, rfl, put29 h1 9 24 _ (by decide) rfl (hb) (rfl), h2.trans (hb.mono h2.size)⟩
    · have hd5 : listed.getD 5 false = true := by simp [Region.binds] at hk2; simp only [Array.getD_eq_getD_getElem?]; simp [hk2]
      have g5 : a.tmps.getD 20 undef = .bool true := h1.new 5 (by decide) hd5
      have e5 : a.eval (.tmp 20) = .bool true := g5
      have hd7 : listed.getD 7 false = true := by simp [Region.binds] at hk2; simp only [Array.getD_eq_getD_getElem?]; simp [hk2]
      have g7 : a.tmps.getD 22 undef = .int .i64 dd := h1.new 7 (by decide) hd7
      have e7 : a.eval (.tmp 22) = .int .i64 dd := g7
      have hd9 : listed.getD 9 false = true := by simp [Region.binds] at hk2; simp only [Array.getD_eq_getD_getElem?]; simp [hk2]
      have g9 : a.tmps.getD 24 undef = .int .i64 dd := h1.new 9 (by decide) hd9
      have e9 : a.eval (.tmp 24) = .int .i64 dd := g9
      refine wpOp_w rfl (by rw [wanted_at rfl rfl rfl g5]; rfl) ?_
      exact wp_val (v := .bool true) (run_bin rfl e7 e9 (by go_simp)) ⟨put29 h1 10 25 _ (by decide) rfl (Below.refl _ _) (rfl), h2⟩
    · have hd5 : listed.getD 5 false = true := by simp [Region.binds] at hk2; simp only [Array.getD_eq_getD_getElem?]; simp [hk2]
      have g5 : a.tmps.getD 20 undef = .bool true := h1.new 5 (by decide) hd5
      have e5 : a.eval (.tmp 20) = .bool true := g5
      have hd10 : listed.getD 10 false = true := by simp [Region.binds] at hk2; simp only [Array.getD_eq_getD_getElem?]; simp [hk2]
      have g10 : a.tmps.getD 25 undef = .bool true := h1.new 10 (by decide) hd10
      have e10 : a.eval (.tmp 25) = .bool true := g10
      refine wpOp_of rfl rfl ?_
      exact wp_val (v := .bool true) (run_pick rfl e5 (by first | rfl | exact e10)) ⟨put29 h1 11 26 _ (by decide) rfl (Below.refl _ _) (rfl), h2⟩
    · have hd11 : listed.getD 11 false = true := by simp [Region.binds] at hk2; simp only [Array.getD_eq_getD_getElem?]; simp [hk2]
      have g11 : a.tmps.getD 26 undef = .bool true := h1.new 11 (by decide) hd11
      have e11 : a.eval (.tmp 26) = .bool true := g11
      refine wpOp_of rfl rfl ?_
      exact wp_val (run_move (by first | exact .inl rfl | exact .inr rfl) e11) ⟨put29 h1 12 27 _ (by decide) rfl (Below.refl _ _) (rfl), h2⟩
    · have hd12 : listed.getD 12 false = true := by simp [Region.binds] at hk2; simp only [Array.getD_eq_getD_getElem?]; simp [hk2]
      have g12 : a.tmps.getD 27 undef = .bool true := h1.new 12 (by decide) hd12
      have e12 : a.eval (.tmp 27) = .bool true := g12
      refine wpOp_w rfl (by rw [wanted_at rfl rfl rfl g12]; rfl) ?_
      exact wp_val (run_load rfl o2 l2) ⟨put29 h1 13 28 _ (by decide) rfl (Below.refl _ _) (rfl), h2⟩
    · have hd12 : listed.getD 12 false = true := by simp [Region.binds] at hk2; simp only [Array.getD_eq_getD_getElem?]; simp [hk2]
      have g12 : a.tmps.getD 27 undef = .bool true := h1.new 12 (by decide) hd12
      have e12 : a.eval (.tmp 27) = .bool true := g12
      refine wpOp_w rfl (by rw [wanted_at rfl rfl rfl g12]; rfl) ?_
      exact wp_val (run_move (by first | exact .inl rfl | exact .inr rfl) o1) ⟨put29 h1 14 29 _ (by decide) rfl (Below.refl _ _) (rfl), h2⟩
    · have hd12 : listed.getD 12 false = true := by simp [Region.binds] at hk2; simp only [Array.getD_eq_getD_getElem?]; simp [hk2]
      have g12 : a.tmps.getD 27 undef = .bool true := h1.new 12 (by decide) hd12
      have e12 : a.eval (.tmp 27) = .bool true := g12
      have hd13 : listed.getD 13 false = true := by simp [Region.binds] at hk2; simp only [Array.getD_eq_getD_getElem?]; simp [hk2]
      have g13 : a.tmps.getD 28 undef = .agg #[.int .i64 x.k, .int .i64 x.o, .int .i64 x.d, .int .i64 x.a, .int .i64 x.b, .int .i64 x.n, .int .i64 x.t] := h1.new 13 (by decide) hd13
      have e13 : a.eval (.tmp 28) = .agg #[.int .i64 x.k, .int .i64 x.o, .int .i64 x.d, .int .i64 x.a, .int .i64 x.b, .int .i64 x.n, .int .i64 x.t] := g13
      have hd14 : listed.getD 14 false = true := by simp [Region.binds] at hk2; simp only [Array.getD_eq_getD_getElem?]; simp [hk2]
      have g14 : a.tmps.getD 29 undef = .int .i64 p := h1.new 14 (by decide) hd14
      have e14 : a.eval (.tmp 29) = .int .i64 p := g14
      refine wpOp_w rfl (by rw [wanted_at rfl rfl rfl g12]; rfl) ?_
      refine wp_enter (f := 13) (args := #[a.eval (.tmp 28), a.eval (.tmp 29)]) ((Go.Conc.run_call_body rfl Tryd.func13 (by kernel_rfl) (by kernel_rfl)).trans (by simp)) ?_
      rw [e13, e14]
      refine (HN.out X h2).mono ?_
      rintro e w' ⟨v, rfl, hr, hb⟩
      exact ⟨v, rfl, put29 h1 15 30 _ (by decide) rfl (hb) (⟨_, hr⟩), h2.trans (hb.mono h2.size)⟩
    · have hd12 : listed.getD 12 false = true := by simp [Region.binds] at hk2; simp only [Array.getD_eq_getD_getElem?]; simp [hk2]
      have g12 : a.tmps.getD 27 undef = .bool true := h1.new 12 (by decide) hd12
      have e12 : a.eval (.tmp 27) = .bool true := g12
      refine wpOp_w rfl (by rw [wanted_at rfl rfl rfl g12]; rfl) ?_
      exact wp_val (run_load rfl o2 l2) ⟨put29 h1 16 31 _ (by decide) rfl (Below.refl _ _) (rfl), h2⟩
    · have hd12 : listed.getD 12 false = true := by simp [Region.binds] at hk2; simp only [Array.getD_eq_getD_getElem?]; simp [hk2]
      have g12 : a.tmps.getD 27 undef = .bool true := h1.new 12 (by decide) hd12
      have e12 : a.eval (.tmp 27) = .bool true := g12
      refine wpOp_w rfl (by rw [wanted_at rfl rfl rfl g12]; rfl) ?_
      exact wp_val (run_move (by first | exact .inl rfl | exact .inr rfl) o1) ⟨put29 h1 17 32 _ (by decide) rfl (Below.refl _ _) (rfl), h2⟩
    · have hd12 : listed.getD 12 false = true := by simp [Region.binds] at hk2; simp only [Array.getD_eq_getD_getElem?]; simp [hk2]
      have g12 : a.tmps.getD 27 undef = .bool true := h1.new 12 (by decide) hd12
      have e12 : a.eval (.tmp 27) = .bool true := g12
      have hd16 : listed.getD 16 false = true := by simp [Region.binds] at hk2; simp only [Array.getD_eq_getD_getElem?]; simp [hk2]
      have g16 : a.tmps.getD 31 undef = .agg #[.int .i64 x.k, .int .i64 x.o, .int .i64 x.d, .int .i64 x.a, .int .i64 x.b, .int .i64 x.n, .int .i64 x.t] := h1.new 16 (by decide) hd16
      have e16 : a.eval (.tmp 31) = .agg #[.int .i64 x.k, .int .i64 x.o, .int .i64 x.d, .int .i64 x.a, .int .i64 x.b, .int .i64 x.n, .int .i64 x.t] := g16
      have hd17 : listed.getD 17 false = true := by simp [Region.binds] at hk2; simp only [Array.getD_eq_getD_getElem?]; simp [hk2]
      have g17 : a.tmps.getD 32 undef = .int .i64 p := h1.new 17 (by decide) hd17
      have e17 : a.eval (.tmp 32) = .int .i64 p := g17
      refine wpOp_w rfl (by rw [wanted_at rfl rfl rfl g12]; rfl) ?_
      refine wp_enter (f := 14) (args := #[a.eval (.tmp 31), a.eval (.tmp 32)]) ((Go.Conc.run_call_body rfl Tryd.func14 (by kernel_rfl) (by kernel_rfl)).trans (by simp)) ?_
      rw [e16, e17]
      refine (HRN.out X).mono ?_
      rintro e w' ⟨v, rfl, hr, hb⟩
      exact ⟨v, rfl, put29 h1 18 33 _ (by decide) rfl (hb) (⟨_, hr⟩), h2.trans (hb.mono h2.size)⟩
    · have hd12 : listed.getD 12 false = true := by simp [Region.binds] at hk2; simp only [Array.getD_eq_getD_getElem?]; simp [hk2]
      have g12 : a.tmps.getD 27 undef = .bool true := h1.new 12 (by decide) hd12
      have e12 : a.eval (.tmp 27) = .bool true := g12
      have hd15 : listed.getD 15 false = true := by simp [Region.binds] at hk2; simp only [Array.getD_eq_getD_getElem?]; simp [hk2]
      obtain ⟨B15, r15⟩ : ∃ B, Rw B X (a.tmps.getD 30 undef) nl := h1.new 15 (by decide) hd15
      have hd18 : listed.getD 18 false = true := by simp [Region.binds] at hk2; simp only [Array.getD_eq_getD_getElem?]; simp [hk2]
      obtain ⟨B18, r18⟩ : ∃ B, Rw B X (a.tmps.getD 33 undef) nl := h1.new 18 (by decide) hd18
      refine wpOp_w rfl (by rw [wanted_at rfl rfl rfl g12]; rfl) ?_
      refine wp_enter (f := 8) (args := #[a.eval (.tmp 30), a.eval (.tmp 33)]) ((Go.Conc.run_call_body rfl Tryd.func8 (by kernel_rfl) (by kernel_rfl)).trans (by simp)) ?_
      refine (ints_yes r15 r18 hnl rfl).mono ?_
      rintro e w' ⟨rfl, hb⟩
      exact ⟨_, rfl, put29 h1 19 34 _ (by decide) rfl (hb) (rfl), h2.trans (hb.mono h2.size)⟩
    · have hd12 : listed.getD 12 false = true := by simp [Region.binds] at hk2; simp only [Array.getD_eq_getD_getElem?]; simp [hk2]
      have g12 : a.tmps.getD 27 undef = .bool true := h1.new 12 (by decide) hd12
      have e12 : a.eval (.tmp 27) = .bool true := g12
      have hd19 : listed.getD 19 false = true := by simp [Region.binds] at hk2; simp only [Array.getD_eq_getD_getElem?]; simp [hk2]
      have g19 : a.tmps.getD 34 undef = .bool true := h1.new 19 (by decide) hd19
      have e19 : a.eval (.tmp 34) = .bool true := g19
      refine wpOp_of rfl rfl ?_
      exact wp_val (v := .bool true) (run_pick rfl e12 (by first | rfl | exact e19)) ⟨put29 h1 20 35 _ (by decide) rfl (Below.refl _ _) (rfl), h2⟩
    · have hd20 : listed.getD 20 false = true := by simp [Region.binds] at hk2; simp only [Array.getD_eq_getD_getElem?]; simp [hk2]
      have g20 : a.tmps.getD 35 undef = .bool true := h1.new 20 (by decide) hd20
      have e20 : a.eval (.tmp 35) = .bool true := g20
      refine wpOp_of rfl rfl ?_
      exact wp_val (run_move (by first | exact .inl rfl | exact .inr rfl) e20) ⟨put29 h1 21 36 _ (by decide) rfl (Below.refl _ _) (rfl), h2⟩
    · have hd21 : listed.getD 21 false = true := by simp [Region.binds] at hk2; simp only [Array.getD_eq_getD_getElem?]; simp [hk2]
      have g21 : a.tmps.getD 36 undef = .bool true := h1.new 21 (by decide) hd21
      have e21 : a.eval (.tmp 36) = .bool true := g21
      refine wpOp_w rfl (by rw [wanted_at rfl rfl rfl g21]; rfl) ?_
      exact wp_val (run_load rfl o2 l2) ⟨put29 h1 22 37 _ (by decide) rfl (Below.refl _ _) (rfl), h2⟩
    · have hd21 : listed.getD 21 false = true := by simp [Region.binds] at hk2; simp only [Array.getD_eq_getD_getElem?]; simp [hk2]
      have g21 : a.tmps.getD 36 undef = .bool true := h1.new 21 (by decide) hd21
      have e21 : a.eval (.tmp 36) = .bool true := g21
      have hd22 : listed.getD 22 false = true := by simp [Region.binds] at hk2; simp only [Array.getD_eq_getD_getElem?]; simp [hk2]
      have g22 : a.tmps.getD 37 undef = .agg #[.int .i64 x.k, .int .i64 x.o, .int .i64 x.d, .int .i64 x.a, .int .i64 x.b, .int .i64 x.n, .int .i64 x.t] := h1.new 22 (by decide) hd22
      have e22 : a.eval (.tmp 37) = .agg #[.int .i64 x.k, .int .i64 x.o, .int .i64 x.d, .int .i64 x.a, .int .i64 x.b, .int .i64 x.n, .int .i64 x.t] := g22
      refine wpOp_w rfl (by rw [wanted_at rfl rfl rfl g21]; rfl) ?_
      refine wp_enter (f := 15) (args := #[a.eval (.tmp 37)]) ((Go.Conc.run_call_body rfl Tryd.func15 (by kernel_rfl) (by kernel_rfl)).trans (by simp)) ?_
      rw [e22]
      refine (HS.out X h2).mono ?_
      rintro e w' ⟨rfl, hb⟩
      exact ⟨_, rfl, put29 h1 23 38 _ (by decide) rfl (hb) (rfl), h2.trans (hb.mono h2.size)⟩
    · have hd21 : listed.getD 21 false = true := by simp [Region.binds] at hk2; simp only [Array.getD_eq_getD_getElem?]; simp [hk2]
      have g21 : a.tmps.getD 36 undef = .bool true := h1.new 21 (by decide) hd21
      have e21 : a.eval (.tmp 36) = .bool true := g21
      refine wpOp_w rfl (by rw [wanted_at rfl rfl rfl g21]; rfl) ?_
      exact wp_val (run_load rfl o2 l2) ⟨put29 h1 24 39 _ (by decide) rfl (Below.refl _ _) (rfl), h2⟩
    · have hd21 : listed.getD 21 false = true := by simp [Region.binds] at hk2; simp only [Array.getD_eq_getD_getElem?]; simp [hk2]
      have g21 : a.tmps.getD 36 undef = .bool true := h1.new 21 (by decide) hd21
      have e21 : a.eval (.tmp 36) = .bool true := g21
      have hd24 : listed.getD 24 false = true := by simp [Region.binds] at hk2; simp only [Array.getD_eq_getD_getElem?]; simp [hk2]
      have g24 : a.tmps.getD 39 undef = .agg #[.int .i64 x.k, .int .i64 x.o, .int .i64 x.d, .int .i64 x.a, .int .i64 x.b, .int .i64 x.n, .int .i64 x.t] := h1.new 24 (by decide) hd24
      have e24 : a.eval (.tmp 39) = .agg #[.int .i64 x.k, .int .i64 x.o, .int .i64 x.d, .int .i64 x.a, .int .i64 x.b, .int .i64 x.n, .int .i64 x.t] := g24
      refine wpOp_w rfl (by rw [wanted_at rfl rfl rfl g21]; rfl) ?_
      refine wp_enter (f := 16) (args := #[a.eval (.tmp 39)]) ((Go.Conc.run_call_body rfl Tryd.func16 (by kernel_rfl) (by kernel_rfl)).trans (by simp)) ?_
      rw [e24]
      refine (HRS.out X).mono ?_
      rintro e w' ⟨rfl, hb⟩
      exact ⟨_, rfl, put29 h1 25 40 _ (by decide) rfl (hb) (rfl), h2.trans (hb.mono h2.size)⟩
    · have hd21 : listed.getD 21 false = true := by simp [Region.binds] at hk2; simp only [Array.getD_eq_getD_getElem?]; simp [hk2]
      have g21 : a.tmps.getD 36 undef = .bool true := h1.new 21 (by decide) hd21
      have e21 : a.eval (.tmp 36) = .bool true := g21
      have hd23 : listed.getD 23 false = true := by simp [Region.binds] at hk2; simp only [Array.getD_eq_getD_getElem?]; simp [hk2]
      have g23 : a.tmps.getD 38 undef = .string st := h1.new 23 (by decide) hd23
      have e23 : a.eval (.tmp 38) = .string st := g23
      have hd25 : listed.getD 25 false = true := by simp [Region.binds] at hk2; simp only [Array.getD_eq_getD_getElem?]; simp [hk2]
      have g25 : a.tmps.getD 40 undef = .string st := h1.new 25 (by decide) hd25
      have e25 : a.eval (.tmp 40) = .string st := g25
      refine wpOp_w rfl (by rw [wanted_at rfl rfl rfl g21]; rfl) ?_
      exact wp_val (v := .bool true) (run_bin rfl e23 e25 (by go_simp)) ⟨put29 h1 26 41 _ (by decide) rfl (Below.refl _ _) (rfl), h2⟩
    · have hd21 : listed.getD 21 false = true := by simp [Region.binds] at hk2; simp only [Array.getD_eq_getD_getElem?]; simp [hk2]
      have g21 : a.tmps.getD 36 undef = .bool true := h1.new 21 (by decide) hd21
      have e21 : a.eval (.tmp 36) = .bool true := g21
      have hd26 : listed.getD 26 false = true := by simp [Region.binds] at hk2; simp only [Array.getD_eq_getD_getElem?]; simp [hk2]
      have g26 : a.tmps.getD 41 undef = .bool true := h1.new 26 (by decide) hd26
      have e26 : a.eval (.tmp 41) = .bool true := g26
      refine wpOp_of rfl rfl ?_
      exact wp_val (v := .bool true) (run_pick rfl e21 (by first | rfl | exact e26)) ⟨put29 h1 27 42 _ (by decide) rfl (Below.refl _ _) (rfl), h2⟩
    · have hd27 : listed.getD 27 false = true := by simp [Region.binds] at hk2; simp only [Array.getD_eq_getD_getElem?]; simp [hk2]
      have g27 : a.tmps.getD 42 undef = .bool true := h1.new 27 (by decide) hd27
      have e27 : a.eval (.tmp 42) = .bool true := g27
      refine wpOp_of rfl rfl ?_
      exact wp_val (run_move (by first | exact .inl rfl | exact .inr rfl) e27) ⟨put29 h1 28 4 _ (by decide) rfl (Below.refl _ _) (rfl), h2⟩
theorem walk (x : Ic) (hx : Ok6 x) (p : Int) (hp : (Lit.int .i64 p).wf = true) (W : World) (L : Laid W) : Calls Tryd.prog 3 #[.agg #[.int .i64 x.k, .int .i64 x.o, .int .i64 x.d, .int .i64 x.a, .int .i64 x.b, .int .i64 x.n, .int .i64 x.t], .int .i64 p] W fun e w' => e = .returned (.bool true) ∧ Below W.heap.size W w' := by
  by_cases h : p < 0 ∨ 1099511627776 < p
  · exact walk_out x p h W (Lib.hid L)
  · refine walk_in x (Lib.hid hx) p (by omega) (by omega) W (Lib.hid L) _ _ _ _ (Lib.hid rfl) (Lib.hid rfl) (Lib.hid rfl) (Lib.hid rfl) ?_ ?_
    · unfold usesM
      split
      · unfold pos
        have h1 := List.length_filter_le (fun x => !decide (x < 0)) (srt [if kps x.k.toNat then x.d else -1, aTo x x.k.toNat 4, bTo x x.k.toNat 4])
        have h2 := srt_len [if kps x.k.toNat then x.d else -1, aTo x x.k.toNat 4, bTo x x.k.toNat 4]
        simp only [List.length_cons, List.length_nil] at h2
        omega
      · simp
    · rw [next_of]
      (repeat' split) <;> simp

theorem out_laid : laidOutB Tryd.prog = true := by kernel_rfl
set_option maxRecDepth 100000 in
theorem lifted (os : Os) (started : os.Started) (H : Type) (enc : TypeId × Value → H) :
    ReturnsInHanded {} Tryd.checked os 3 .any (fun w args => (Rows.insTellsSpec.pre enc Tryd.prog Tryd.f3 [] false w args ∧ laidMetH Tryd.prog laidL w) ∧ sizedMet enc Tryd.prog Tryd.f3 (OpenSpec.ofChange Rows.insTellsSpec) false w args)
      (Rows.insTellsSpec.post enc Tryd.prog Tryd.f3 false true false false) := by
  refine returnsInHanded_of_change_and (C := Tryd.checked) (X := fun w _ => laidMetH Tryd.prog laidL w) (fun _ _ _ hh h => h.of_heap hh) own started (by kernel_rfl) Tryd.func3
    (ChangeSpec.witness_shaped (enc := enc) (C := Tryd.checked) (os := os) (X := fun w _ => laidMetH Tryd.prog laidL w) false (World.doorLaid Tryd.prog 400 os) #[.agg #[.int .i64 0, .int .i64 0, .int .i64 0, .int .i64 0, .int .i64 0, .int .i64 0, .int .i64 0], .int .i64 0] 8 rfl (World.shaped_of_RefB (by kernel_rfl) (by kernel_rfl)) (by kernel_rfl) (by kernel_rfl) (by kernel_rfl) (door_met os _)) ?_
  intro W base args ds gs before hval0 hW _ _ hL _
  have hval : ∀ (j : Nat) t v, Tryd.f3.params[j]? = some t → args[j]? = some v → Value.okWide Tryd.prog W .any base t v := hval0
  have hW' := hW
  obtain ⟨p, q, hA0, hV, rfl, hfz, hnd⟩ := hW
  have hA : DataW.TrodAll enc Tryd.prog W 0 (fun _ => true) true Tryd.f3.params.toList args.toList ds p := hA0
  rw [Tryd.params3] at hA hval
  obtain ⟨v0, vs0, d0, ds0, p0, q0, hargs, rfl, rfl, h0, r0⟩ := trodAll_cons hA
  obtain ⟨v1, vs1, d1, ds1, p1, q1, rfl, rfl, rfl, h1, r1⟩ := trodAll_cons r0
  obtain ⟨rfl, rfl, rfl⟩ := trodAll_nil r1
  obtain rfl : args = #[v0, v1] := by cases args; simp_all
  obtain ⟨rfl, rfl⟩ := trodVars_none hV
  obtain ⟨x0, rfl, hx0⟩ := open_ins (hval 0 23 v0 rfl rfl) h0
  have hu1 := h1
  obtain ⟨i1, rfl, -, -, wx1⟩ := open_int Tryd.underlying3 (hval 1 3 v1 rfl rfl) hu1
  have hlt0 : ∀ x ∈ p0, x.block < W.heap.size := fun x hx => by simpa using hW'.lt x (by simp [hx])
  have hlt1 : ∀ x ∈ p1, x.block < W.heap.size := fun x hx => by simpa using hW'.lt x (by simp [hx])
  have hLaid := of_laid hL
  clear hA0 hval0
  simp only [List.append_nil] at hW'
  refine (walk x0 hx0 i1 wx1 W hLaid).mono fun e W' ⟨he, hb⟩ => ?_
  subst he
  exact ⟨_, rfl, _, _, _, [], _, [], hW', trodAll_mk1 (shut_bool Tryd.underlying4 _), (trodAll_cons_mk (Below.trod out_laid (by kernel_rfl) (of_decide_eq_true (by kernel_rfl)) h0 hb hlt0) (trodAll_cons_mk (Below.trod out_laid (by kernel_rfl) (of_decide_eq_true (by kernel_rfl)) h1 hb hlt1) trodAll_mk0)), rfl, hb.frame _, fun h => by cases h⟩

theorem said : Rows.InsTellsSaid :=
  OpenClaim.holds_of_wide 3 Tryd.f3 rfl rfl rfl rfl rfl rfl rfl ⟨rfl, rfl, rfl, rfl, rfl⟩ rfl rfl rfl rfl rfl (by kernel_rfl) Tryd.func3 (by kernel_rfl)
    (of_decide_eq_true (by kernel_rfl)) (by unfold Func.isWrapper; first | (rw [if_pos (by decide +kernel)]; kernel_rfl) | (rw [if_neg (by decide +kernel)]; exact ⟨rfl, rfl⟩))
    (fun os started H enc _ => lifted os started H enc)
end InsTells

theorem insTells_card_holds : Rows.InsTellsCardSaid :=
  Claim7.holds_tied_plain_at .later [] _ true _ false
    InsTells.said (fun _ h => by cases h) (by kernel_rfl) (fun _ h => by cases h) insTells_row_tie rfl ⟨rfl, rfl⟩ (by kernel_rfl) rfl
    (fun f fn hf hfn => by
      obtain rfl : f = 3 := Option.some.inj ((show Tryd.prog.funcNamed "paling/palinglaw11.InsTells" = some 3 by kernel_rfl).symm.trans hf) |>.symm
      obtain rfl : fn = Tryd.f3 := (Option.some.inj (Tryd.func3.symm.trans hfn)).symm
      exact ⟨by kernel_rfl, fun j t ht => by
        rw [Tryd.params3] at ht
        have hm : t ∈ [23, 3] := by simpa using Array.mem_of_getElem? ht
        have hall : ([23, 3].all fun u => !Tryd.prog.wantsStandIn u) = true := by kernel_rfl
        exact (show Tryd.prog.wantsStandIn t = false by simpa using List.all_eq_true.1 hall t hm)⟩)
    (by kernel_rfl)
#print axioms insTells_card_holds
end Go.Proofs.YtjjjdghkeogljaaDoor
