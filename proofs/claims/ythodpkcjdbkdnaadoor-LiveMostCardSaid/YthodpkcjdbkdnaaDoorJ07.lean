/- Lemmas for the laws of live (Lrf Lms Lsl Law Lte Lld Opn Lop): each says its own conditions. -/
import Derived.Test.YthodpkcjdbkdnaaDoorJ06
import Derived.Test.YthodpkcjdbkdnaaDoorJ03
import Derived.Test.YthodpkcjdbkdnaaDoorJ05
import Derived.Test.YthodpkcjdbkdnaaDoorJ02
import Derived.StillTailTactics
import Derived.Lib.LaidTab
import Derived.Test.YthodpkcjdbkdnaaDoorRows
import Derived.ProofKit
import Derived.LaidMore
import Derived.OpenShut
import Derived.Stop.Joined
import Derived.Stop.LaidErr
import Derived.LaidLaws
import Derived.Lib.SmallJoins
import Derived.Deep.Strs
import Derived.SizedLaws
set_option linter.unusedSimpArgs false
set_option linter.unusedVariables false
namespace Go.Proofs.YthodpkcjdbkdnaaDoor
open Go Go.RowKit Gm
open Classical

/-- The first and the last of the first places. -/
def PlI (c : List Ic) (r : Int) (i : Nat) : Option (Nat × Nat) → Prop
  | none => ∀ j, j < i → ¬ Pl c r j
  | some p => p.1 < i ∧ p.2 < i ∧ Pl c r p.1 ∧ Pl c r p.2 ∧ ∀ j, j < i → Pl c r j → p.1 ≤ j ∧ j ≤ p.2
def pf (st : Option (Nat × Nat)) : Int := match st with | none => -1 | some p => p.1
def ps (st : Option (Nat × Nat)) : Int := match st with | none => -1 | some p => p.2
def nxs (st : Option (Nat × Nat)) (i : Nat) : Option (Nat × Nat) := match st with | none => some (i, i) | some p => some (p.1, i)
section
variable {c : List Ic} {r : Int} {i : Nat} {st : Option (Nat × Nat)}
theorem PlI.no (h : PlI c r i st) (hn : ¬ Pl c r i) : PlI c r (i + 1) st := by
  cases st with
  | none => exact fun j hj hp => if e : j = i then hn (e ▸ hp) else h j (by omega) hp
  | some p => exact ⟨by have := h.1; omega, by have := h.2.1; omega, h.2.2.1, h.2.2.2.1, fun j hj hp => if e : j = i then absurd (e ▸ hp) hn else h.2.2.2.2 j (by omega) hp⟩
theorem PlI.yes (h : PlI c r i st) (hp : Pl c r i) : PlI c r (i + 1) (nxs st i) := by
  cases st with
  | none => exact ⟨by simp, by simp, hp, hp, fun j hj hj2 => if e : j = i then by simp [e] else absurd hj2 (h j (by omega))⟩
  | some p => exact ⟨by have := h.1; simp; omega, by simp, h.2.2.1, hp, fun j hj hj2 => if e : j = i then by have := h.1; simp [e]; omega else by have := h.2.2.2.2 j (by omega) hj2; have := h.2.1; simp; omega⟩
end
theorem pl_iff {c : List Ic} {r : Int} {i : Nat} {x : Ic} (h0 : 0 ≤ r) (hx : c[i]? = some x) : Pl c r i ↔ defM x = r ∨ Nd c r i := by
  constructor
  · rintro (⟨y, hy, h | h⟩ | h)
    · exact .inr (.use hy h)
    · rw [hx] at hy; cases hy; exact .inl h.1
    · exact .inr h
  · rintro (h | h)
    · exact .inl ⟨x, hx, .inr ⟨h, h0⟩⟩
    · exact .inr h
theorem pl_lt {c : List Ic} {r : Int} {i : Nat} (h : Pl c r i) : i < c.length := by
  rcases h with ⟨x, hx, -⟩ | h
  · exact (List.getElem?_eq_some_iff.1 hx).1
  · exact h.lt
theorem bh_pl {c : List Ic} {r : Int} {i : Nat} (h0 : 0 ≤ r) (hi : i < c.length) (h : Bh c r i) : Pl c r i := by
  obtain ⟨x, hx⟩ : ∃ x, c[i]? = some x := ⟨_, List.getElem?_eq_getElem hi⟩
  by_cases hd : defM x = r
  · exact (pl_iff h0 hx).2 (.inl hd)
  · exact (pl_iff h0 hx).2 (.inr ((Nd.iff hx).2 (.inr ⟨hd, h⟩)))
/-- The first registers' ranges. -/
structure RgJ (c : List Ic) (R : List Int) (k : Nat) (L : List Rt) : Prop where
  up : L.map (·.1) = R.take k
  pl : ∀ x, x ∈ L → Pl c x.1 x.2.1 ∧ Pl c x.1 x.2.2 ∧ ∀ i, Pl c x.1 i → x.2.1 ≤ i ∧ i ≤ x.2.2
theorem RgJ.next {c : List Ic} {R : List Int} {k : Nat} {L : List Rt} {r : Int} {p : Nat × Nat} (h : RgJ c R k L) (hr : R[k]? = some r) (hp : PlI c r c.length (some p)) : RgJ c R (k + 1) (L ++ [(r, p.1, p.2)]) := by
  refine ⟨by rw [List.map_append, h.up, List.take_add_one, hr]; rfl, fun x hx => ?_⟩
  rcases List.mem_append.1 hx with hx | hx
  · exact h.pl x hx
  · have : x = (r, p.1, p.2) := by simpa using hx
    subst this
    exact ⟨hp.2.2.1, hp.2.2.2.1, fun i hi => hp.2.2.2.2 i (pl_lt hi) hi⟩
theorem info_range15 : (Tryd.prog.info? 31).map (fun i => (i.zero, i.size, i.bytes)) = some (some (.agg #[.int .i64 0, .int .i64 0, .int .i64 0]), 3, 24) := by kernel_rfl
def RrfP (W : World) (c : List Ic) (e : Ending) (w' : World) : Prop := ∃ v L, e = .returned v ∧ IsRng c L ∧ R3 31 W.heap.size w' v L ∧ L.length ≤ 64 ∧ Below W.heap.size W w'
set_option maxRecDepth 100000 in
set_option maxHeartbeats 8000000 in
theorem ranges_c {W : World} {p : Option Addr} {cap : Nat} {c : List Ic} (hc : Hid (CodeAt W p c)) (hsm : Hid (Sm c)) (hn : c.length ≤ 50000) : Calls Tryd.prog 10 #[.slice p c.length cap] W (RrfP W c) := by
  obtain ⟨i0, hi0, hz0, hz1, hz2⟩ := info_parts info_range15
  go_enter Tryd.func10, Tryd.ntmps10
  go_upto_region 3 with (go_at_call 13; ((with_reducible refine (ahead_c hc (by omega)).mono ?_); rintro e0 V0 ⟨v0, rfl, ha, hbl⟩; obtain ⟨pa, ca, S0, rfl, -, -⟩ := ha V0 (Kp.refl _ _); have HV0 := Lib.hid (And.intro ha hbl); clear ha hbl))
  have HC0 : Hid (CodeAt V0 p c) := Lib.hid (hc.out.stay HV0.out.2)
  go_upto_region 4 with (go_at_call 15; ((with_reducible refine (behind_c HC0 (by omega)).mono ?_); rintro e1 V1 ⟨v1, rfl, ha, hbl⟩; obtain ⟨pb, cb, S1, rfl, -, -⟩ := ha V1 (Kp.refl _ _); have HV1 := Lib.hid (And.intro ha hbl); clear ha hbl))
  have HC1 : Hid (CodeAt V1 p c) := Lib.hid (HC0.out.stay HV1.out.2)
  go_upto_region 5 with (go_at_call 22; ((with_reducible refine (regs_c HC1 (by omega)).mono ?_); rintro e2 V ⟨v2, R, rfl, hr, hL, hbl⟩; obtain ⟨qr, cr, rfl, hq, -⟩ := GV.rv hr.gv; have HV := Lib.hid (And.intro hq (And.intro hL hbl)); clear hr hL hbl hq))
  have HAR : Hid (∀ X, Below V.heap.size V X → ∃ S, RV X pa c.length S ∧ ∀ y, y < c.length → NRI X (S y) fun r => Nd c r y) := Lib.hid fun X hX => by
    have h1 : Below V0.heap.size V0 X := HV1.out.2.trans ((HV.out.2.2.mono HV1.out.2.size).trans (hX.mono (Nat.le_trans HV1.out.2.size HV.out.2.2.size)))
    obtain ⟨q, cq, S, e, h1, h2⟩ := HV0.out.1 X ⟨h1.size, fun k _ h2 => h1.block k h2⟩
    cases e
    exact ⟨S, h1, h2⟩
  have HBR : Hid (∀ X, Below V.heap.size V X → ∃ S, RV X pb c.length S ∧ ∀ y, y < c.length → NRI X (S y) fun r => Bh c r y) := Lib.hid fun X hX => by
    have h1 : Below V1.heap.size V1 X := HV.out.2.2.trans (hX.mono HV.out.2.2.size)
    obtain ⟨q, cq, S, e, h1, h2⟩ := HV1.out.1 X ⟨h1.size, fun k _ h2 => h1.block k h2⟩
    cases e
    exact ⟨S, h1, h2⟩
  have hWV : Hid (Below W.heap.size W V) := Lib.hid ((HV0.out.2.trans (HV1.out.2.mono HV0.out.2.size)).trans (HV.out.2.2.mono (Nat.le_trans HV0.out.2.size HV1.out.2.size)))
  have HRM : Hid (∀ r, r ∈ R → 0 ≤ r ∧ r < 64 ∧ ∃ i, Pl c r i) := Lib.hid fun r hr => by
    obtain ⟨j, x, hj, hx, hrx⟩ := (HV.out.2.1.mem r).1 hr
    have h3 : r ∈ usesM x ∨ (defM x = r ∧ 0 ≤ r) := (rgs_mem x r).1 hrx
    have h4 := rg_sm hsm.out ⟨j, x, hx, h3⟩
    exact ⟨h4.1, h4.2, j, .inl ⟨x, hx, h3⟩⟩
  have HRA : Hid (∀ r, (∃ i, Pl c r i) → r ∈ R) := Lib.hid fun r ⟨i, hi⟩ => by
    have hrg : Rg c r := by
      rcases hi with ⟨x, hx, h⟩ | h
      · exact ⟨i, x, hx, h⟩
      · exact h.rg
    obtain ⟨j, x, hx, h⟩ := hrg
    exact (HV.out.2.1.mem r).2 ⟨j, x, (List.getElem?_eq_some_iff.1 hx).1, hx, (rgs_mem x r).2 h⟩
  have hR64 := up_len64 HV.out.2.1.up fun r hr => ⟨(HRM.out r hr).1, (HRM.out r hr).2.1⟩
  go_wp2
  go_loopw [3, 7] (fun a3 a7 wr => ∃ (k : Nat) (v : Value) (L : List Rt), v = a3 ∧ a7 = .int .i64 k ∧ k ≤ R.length ∧ Hid (Below V.heap.size V wr ∧ R3 31 V.heap.size wr v L ∧ RgJ c R k L)) (fun _ a7 _ => R.length - (intOf a7).toNat)
  case atStart => exact ⟨0, _, [], rfl, rfl, Nat.zero_le _, Lib.hid ⟨Below.refl _ _, R3.nil _ _ _, ⟨rfl, fun x hx => by simp at hx⟩⟩⟩
  case round =>
    obtain ⟨wo, rfl⟩ : ∃ wo : World, wo = wr := ⟨_, rfl⟩
    obtain ⟨k, v, L, rfl, rfl, hk, HR⟩ := hrel
    by_cases hkl : k < R.length
    · obtain ⟨r, hr⟩ : ∃ r, R[k]? = some r := ⟨_, List.getElem?_eq_getElem hkl⟩
      obtain ⟨gr, o, rfl, -, ic⟩ := (HV.out.1.stay HR.out.1) k hkl
      have ie : iv (fun i => R.getD i 0) k = .int .i64 r := by simp [iv, List.getD_eq_getElem?_getD, hr]
      rw [ie] at ic
      have HRr := Lib.hid hr
      have hr0 := (HRM.out r (List.mem_of_getElem? hr)).1
      clear ie hr
      go_upto_region 9 with (fail)
      refine name_world ?_
      intro V3 hV3
      obtain ⟨q, hq⟩ : ∃ q, wo.heap.size = q := ⟨_, rfl⟩
      have HB3 : Hid (Below wo.heap.size wo V3) := Lib.hid (by rw [hV3]; exact below1 _ _)
      have HX3 : Hid (V3.heap[q]? = some (.cells #[.int .i64 r, .int .i64 (-1), .int .i64 (-1)] 31 (0, 0))) := Lib.hid (by rw [hV3, ← hq]; exact heap_alloc_new wo _)
      have HQ := Lib.hid hq
      try rw [hq]
      clear hV3 hq ic
      have hqV : V.heap.size ≤ q := by have := HR.out.1.size; have := HQ.out; omega
      have hqo : wo.heap.size ≤ q := Nat.le_of_eq HQ.out
      go_upto_region 10 with (fail)
      go_loopw [9] (fun a9 wr => ∃ (i : Nat) (st : Option (Nat × Nat)), a9 = .int .i64 i ∧ i ≤ c.length ∧ Hid (Below wo.heap.size wo wr ∧ wr.heap[q]? = some (.cells #[.int .i64 r, .int .i64 (pf st), .int .i64 (ps st)] 31 (0, 0)) ∧ PlI c r i st)) (fun a9 _ => c.length - (intOf a9).toNat)
      case atStart => exact ⟨0, none, rfl, Nat.zero_le _, Lib.hid ⟨HB3.out, HX3.out, fun j hj => by omega⟩⟩
      case round =>
        obtain ⟨wi, rfl⟩ : ∃ wo : World, wo = wr := ⟨_, rfl⟩
        obtain ⟨i, st, rfl, hi, HI⟩ := hrel
        have hqi : q < wi.heap.size := (Array.getElem?_eq_some_iff.1 HI.out.2.1).1
        by_cases hil : i < c.length
        · obtain ⟨x, hx⟩ : ∃ x, c[i]? = some x := ⟨_, List.getElem?_eq_getElem hil⟩
          have hVi : Below V.heap.size V wi := HR.out.1.trans (HI.out.1.mono HR.out.1.size)
          obtain ⟨gc, oc, ep, hgc, hat7, hok⟩ := (hc.out.stay (hWV.out.trans (hVi.mono hWV.out.size))) i x hx
          have k0 := hat7.k
          have k1 := hat7.o
          have k2' := hat7.d
          have k3' := hat7.a
          have k4 := hat7.b
          have k5 := hat7.n
          have k6 := hat7.t
          obtain ⟨SA, hSA, hNA⟩ := HAR.out wi hVi
          obtain ⟨ga, oa, ea, hga, iA⟩ := hSA i hil
          subst ea
          obtain ⟨la, ⟨pl, cl, el, hla⟩, hl1, -, hl3⟩ := hNA i hil
          rw [el] at iA
          have hPL : Pl c r i ↔ defM x = r ∨ r ∈ la := (pl_iff hr0 hx).trans (or_congr Iff.rfl (hl3 r).symm)
          obtain ⟨tn, htn⟩ : ∃ t, decide (r ∈ la) = t := ⟨_, rfl⟩
          have HQh : Hid (∀ X, Below wi.heap.size wi X → Calls Tryd.prog 29 #[.slice pl la.length cl, .int .i64 r] X fun e w' => e = .returned (.bool tn) ∧ w' = X) := Lib.hid fun X hX => by
            rw [← htn]
            exact rhas_q (Lib.hid (hla.stay hX)) hl1 r
          have HTN : Hid (tn = true ↔ r ∈ la) := Lib.hid (by rw [← htn, decide_eq_true_eq])
          have bx0 : wi.cell? ⟨q, 0, none⟩ = some (.int .i64 r) := by rw [cell_of_row _ _ _ _ _ _ HI.out.2.1]; rfl
          have HDF : Hid (∀ w, Calls Tryd.prog 19 #[.agg #[.int .i64 x.k, .int .i64 x.o, .int .i64 x.d, .int .i64 x.a, .int .i64 x.b, .int .i64 x.n, .int .i64 x.t]] w fun e w' => e = .returned (.int .i64 (defM x)) ∧ Below w.heap.size w w') := Lib.hid fun w => rdef_any x w
          obtain ⟨dm, hdm⟩ : ∃ d, defM x = d := ⟨_, rfl⟩
          rw [hdm] at HDF hPL
          have HPL := Lib.hid hPL
          subst ep
          clear hat7 hok hx hdm hPL htn hla hl3 hNA hSA el hVi
          go_upto_region 12 with (fail)
          go_cut [10] from 34 to 50 (fun a10 wx => ∃ bb : Bool, a10 = .bool bb ∧ (bb = true ↔ Pl c r i) ∧ Hid (Below wi.heap.size wi wx))
          case first =>
            by_cases hd : dm = r
            · skip
              refine region_held1 (fun w' => Below wi.heap.size wi w') (by kernel_rfl) ?_
              show wpAnyH _ _ _ _ _ 18 _ _ _
              refine takeH (i := 0) (v := .slice (some ⟨gc, oc, none⟩) c.length cap) (some 34) rfl rfl (by kernel_rfl) (by kernel_rfl) (by kernel_rfl) (Or.inl ⟨by rfl, ?_⟩) (below_drew1 _) ?_
              · intro w1 hS1
                go_simp
              simp only [Act.put, List.setIfInBounds_toArray, List.set_cons_zero, List.set_cons_succ]
              refine takeH (i := 1) (v := .int .i64 (i : Int)) (some 35) rfl rfl (by kernel_rfl) (by kernel_rfl) (by kernel_rfl) (Or.inl ⟨by rfl, ?_⟩) (below_drew1 _) ?_
              · intro w1 hS1
                go_simp
              simp only [Act.put, List.setIfInBounds_toArray, List.set_cons_zero, List.set_cons_succ]
              refine takeH (i := 2) (v := .pointer (some ⟨gc, oc + i * 7, none⟩)) (some 36) rfl rfl (by kernel_rfl) (by kernel_rfl) (by kernel_rfl) (Or.inl ⟨by rfl, ?_⟩) (below_drew1 _) ?_
              · intro w1 hS1
                go_simp
              simp only [Act.put, List.setIfInBounds_toArray, List.set_cons_zero, List.set_cons_succ]
              refine takeH (i := 3) (v := .agg #[.int .i64 x.k, .int .i64 x.o, .int .i64 x.d, .int .i64 x.a, .int .i64 x.b, .int .i64 x.n, .int .i64 x.t]) (some 37) rfl rfl (by kernel_rfl) (by kernel_rfl) (by kernel_rfl) (Or.inl ⟨by rfl, ?_⟩) (below_drew1 _) ?_
              · intro w1 hS1
                have k0 := (hS1.cell (p := ⟨gc, _, none⟩) hgc).trans k0
                have k1 := (hS1.cell (p := ⟨gc, _, none⟩) hgc).trans k1
                have k2' := (hS1.cell (p := ⟨gc, _, none⟩) hgc).trans k2'
                have k3' := (hS1.cell (p := ⟨gc, _, none⟩) hgc).trans k3'
                have k4 := (hS1.cell (p := ⟨gc, _, none⟩) hgc).trans k4
                have k5 := (hS1.cell (p := ⟨gc, _, none⟩) hgc).trans k5
                have k6 := (hS1.cell (p := ⟨gc, _, none⟩) hgc).trans k6
                go_simp
              simp only [Act.put, List.setIfInBounds_toArray, List.set_cons_zero, List.set_cons_succ]
              refine takeH (i := 5) (v := .pointer (some ⟨q, 0, none⟩)) (some 39) rfl rfl (by kernel_rfl) (by kernel_rfl) (by kernel_rfl) (Or.inl ⟨by rfl, ?_⟩) (below_drew1 _) ?_
              · intro w1 hS1
                go_simp
              simp only [Act.put, List.setIfInBounds_toArray, List.set_cons_zero, List.set_cons_succ]
              refine takeH (i := 6) (v := .int .i64 r) (some 40) rfl rfl (by kernel_rfl) (by kernel_rfl) (by kernel_rfl) (Or.inl ⟨by rfl, ?_⟩) (below_drew1 _) ?_
              · intro w1 hS1
                have bx0 := (hS1.cell (p := ⟨q, 0, none⟩) hqi).trans bx0
                go_simp
              simp only [Act.put, List.setIfInBounds_toArray, List.set_cons_zero, List.set_cons_succ]
              refine wpAnyH_all (rs := [4]) (by kernel_rfl) (by simp) ?_
              intro i8 hi8
              obtain rfl : i8 = 4 := by simpa using hi8
              refine wpOp_call (some 38) rfl rfl (by rfl) (f := 19) (args := #[.agg #[.int .i64 x.k, .int .i64 x.o, .int .i64 x.d, .int .i64 x.a, .int .i64 x.b, .int .i64 x.n, .int .i64 x.t]]) (by go_simp) (HDF.out _) ?_
              rintro e5 w5 ⟨rfl, hb5⟩
              have HB5 : Hid (Below wi.heap.size wi w5) := Lib.hid ((below_drew1 _).trans hb5)
              refine ⟨_, rfl, HB5.out, ?_⟩
              simp only [Act.put, List.setIfInBounds_toArray, List.set_cons_zero, List.set_cons_succ]
              refine takeH (i := 7) (v := .bool true) (some 41) rfl rfl (by kernel_rfl) (by kernel_rfl) (by kernel_rfl) (Or.inl ⟨by rfl, ?_⟩) HB5.out ?_
              · intro w1 hS1
                go_simp
                try simp [hd]
              simp only [Act.put, List.setIfInBounds_toArray, List.set_cons_zero, List.set_cons_succ]
              refine takeH (i := 8) (v := .bool true) (some 42) rfl rfl (by kernel_rfl) (by kernel_rfl) (by kernel_rfl) (Or.inl ⟨by rfl, ?_⟩) HB5.out ?_
              · intro w1 hS1
                go_simp
              simp only [Act.put, List.setIfInBounds_toArray, List.set_cons_zero, List.set_cons_succ]
              refine takeH (i := 9) (v := undef) (some 43) rfl rfl (by kernel_rfl) (by kernel_rfl) (by kernel_rfl) (Or.inr ⟨by rfl, rfl⟩) HB5.out ?_
              simp only [Act.put, List.setIfInBounds_toArray, List.set_cons_zero, List.set_cons_succ]
              refine takeH (i := 10) (v := undef) (some 44) rfl rfl (by kernel_rfl) (by kernel_rfl) (by kernel_rfl) (Or.inr ⟨by rfl, rfl⟩) HB5.out ?_
              simp only [Act.put, List.setIfInBounds_toArray, List.set_cons_zero, List.set_cons_succ]
              refine takeH (i := 11) (v := undef) (some 45) rfl rfl (by kernel_rfl) (by kernel_rfl) (by kernel_rfl) (Or.inr ⟨by rfl, rfl⟩) HB5.out ?_
              simp only [Act.put, List.setIfInBounds_toArray, List.set_cons_zero, List.set_cons_succ]
              refine takeH (i := 12) (v := undef) (some 46) rfl rfl (by kernel_rfl) (by kernel_rfl) (by kernel_rfl) (Or.inr ⟨by rfl, rfl⟩) HB5.out ?_
              simp only [Act.put, List.setIfInBounds_toArray, List.set_cons_zero, List.set_cons_succ]
              refine takeH (i := 13) (v := undef) (some 47) rfl rfl (by kernel_rfl) (by kernel_rfl) (by kernel_rfl) (Or.inr ⟨by rfl, rfl⟩) HB5.out ?_
              simp only [Act.put, List.setIfInBounds_toArray, List.set_cons_zero, List.set_cons_succ]
              refine takeH (i := 14) (v := undef) (some 48) rfl rfl (by kernel_rfl) (by kernel_rfl) (by kernel_rfl) (Or.inr ⟨by rfl, rfl⟩) HB5.out ?_
              simp only [Act.put, List.setIfInBounds_toArray, List.set_cons_zero, List.set_cons_succ]
              refine takeH (i := 15) (v := undef) (some 49) rfl rfl (by kernel_rfl) (by kernel_rfl) (by kernel_rfl) (Or.inr ⟨by rfl, rfl⟩) HB5.out ?_
              simp only [Act.put, List.setIfInBounds_toArray, List.set_cons_zero, List.set_cons_succ]
              refine takeH (i := 16) (v := .bool true) (some 50) rfl rfl (by kernel_rfl) (by kernel_rfl) (by kernel_rfl) (Or.inl ⟨by rfl, ?_⟩) HB5.out ?_
              · intro w1 hS1
                go_simp
              simp only [Act.put, List.setIfInBounds_toArray, List.set_cons_zero, List.set_cons_succ]
              refine takeH (i := 17) (v := .bool true) (some 10) rfl rfl (by kernel_rfl) (by kernel_rfl) (by kernel_rfl) (Or.inl ⟨by rfl, ?_⟩) HB5.out ?_
              · intro w1 hS1
                go_simp
              simp only [Act.put, List.setIfInBounds_toArray, List.set_cons_zero, List.set_cons_succ]
              refine wpAnyH_done (by kernel_rfl) ?_ _
              refine ⟨rfl, ?_⟩
              go_wp2_with fail
              go_meet
              case rel => exact ⟨true, rfl, ⟨fun _ => HPL.out.2 (.inl hd), fun _ => rfl⟩, HB5⟩
            · skip
              refine region_held1 (fun w' => Below wi.heap.size wi w') (by kernel_rfl) ?_
              show wpAnyH _ _ _ _ _ 18 _ _ _
              refine takeH (i := 0) (v := .slice (some ⟨gc, oc, none⟩) c.length cap) (some 34) rfl rfl (by kernel_rfl) (by kernel_rfl) (by kernel_rfl) (Or.inl ⟨by rfl, ?_⟩) (below_drew1 _) ?_
              · intro w1 hS1
                go_simp
              simp only [Act.put, List.setIfInBounds_toArray, List.set_cons_zero, List.set_cons_succ]
              refine takeH (i := 1) (v := .int .i64 (i : Int)) (some 35) rfl rfl (by kernel_rfl) (by kernel_rfl) (by kernel_rfl) (Or.inl ⟨by rfl, ?_⟩) (below_drew1 _) ?_
              · intro w1 hS1
                go_simp
              simp only [Act.put, List.setIfInBounds_toArray, List.set_cons_zero, List.set_cons_succ]
              refine takeH (i := 2) (v := .pointer (some ⟨gc, oc + i * 7, none⟩)) (some 36) rfl rfl (by kernel_rfl) (by kernel_rfl) (by kernel_rfl) (Or.inl ⟨by rfl, ?_⟩) (below_drew1 _) ?_
              · intro w1 hS1
                go_simp
              simp only [Act.put, List.setIfInBounds_toArray, List.set_cons_zero, List.set_cons_succ]
              refine takeH (i := 3) (v := .agg #[.int .i64 x.k, .int .i64 x.o, .int .i64 x.d, .int .i64 x.a, .int .i64 x.b, .int .i64 x.n, .int .i64 x.t]) (some 37) rfl rfl (by kernel_rfl) (by kernel_rfl) (by kernel_rfl) (Or.inl ⟨by rfl, ?_⟩) (below_drew1 _) ?_
              · intro w1 hS1
                have k0 := (hS1.cell (p := ⟨gc, _, none⟩) hgc).trans k0
                have k1 := (hS1.cell (p := ⟨gc, _, none⟩) hgc).trans k1
                have k2' := (hS1.cell (p := ⟨gc, _, none⟩) hgc).trans k2'
                have k3' := (hS1.cell (p := ⟨gc, _, none⟩) hgc).trans k3'
                have k4 := (hS1.cell (p := ⟨gc, _, none⟩) hgc).trans k4
                have k5 := (hS1.cell (p := ⟨gc, _, none⟩) hgc).trans k5
                have k6 := (hS1.cell (p := ⟨gc, _, none⟩) hgc).trans k6
                go_simp
              simp only [Act.put, List.setIfInBounds_toArray, List.set_cons_zero, List.set_cons_succ]
              refine takeH (i := 5) (v := .pointer (some ⟨q, 0, none⟩)) (some 39) rfl rfl (by kernel_rfl) (by kernel_rfl) (by kernel_rfl) (Or.inl ⟨by rfl, ?_⟩) (below_drew1 _) ?_
              · intro w1 hS1
                go_simp
              simp only [Act.put, List.setIfInBounds_toArray, List.set_cons_zero, List.set_cons_succ]
              refine takeH (i := 6) (v := .int .i64 r) (some 40) rfl rfl (by kernel_rfl) (by kernel_rfl) (by kernel_rfl) (Or.inl ⟨by rfl, ?_⟩) (below_drew1 _) ?_
              · intro w1 hS1
                have bx0 := (hS1.cell (p := ⟨q, 0, none⟩) hqi).trans bx0
                go_simp
              simp only [Act.put, List.setIfInBounds_toArray, List.set_cons_zero, List.set_cons_succ]
              refine wpAnyH_all (rs := [4]) (by kernel_rfl) (by simp) ?_
              intro i8 hi8
              obtain rfl : i8 = 4 := by simpa using hi8
              refine wpOp_call (some 38) rfl rfl (by rfl) (f := 19) (args := #[.agg #[.int .i64 x.k, .int .i64 x.o, .int .i64 x.d, .int .i64 x.a, .int .i64 x.b, .int .i64 x.n, .int .i64 x.t]]) (by go_simp) (HDF.out _) ?_
              rintro e5 w5 ⟨rfl, hb5⟩
              have HB5 : Hid (Below wi.heap.size wi w5) := Lib.hid ((below_drew1 _).trans hb5)
              refine ⟨_, rfl, HB5.out, ?_⟩
              simp only [Act.put, List.setIfInBounds_toArray, List.set_cons_zero, List.set_cons_succ]
              refine takeH (i := 7) (v := .bool false) (some 41) rfl rfl (by kernel_rfl) (by kernel_rfl) (by kernel_rfl) (Or.inl ⟨by rfl, ?_⟩) HB5.out ?_
              · intro w1 hS1
                go_simp
                try simp [hd]
              simp only [Act.put, List.setIfInBounds_toArray, List.set_cons_zero, List.set_cons_succ]
              refine takeH (i := 8) (v := .bool false) (some 42) rfl rfl (by kernel_rfl) (by kernel_rfl) (by kernel_rfl) (Or.inl ⟨by rfl, ?_⟩) HB5.out ?_
              · intro w1 hS1
                go_simp
              simp only [Act.put, List.setIfInBounds_toArray, List.set_cons_zero, List.set_cons_succ]
              refine takeH (i := 9) (v := .slice (some ⟨ga, oa, none⟩) c.length ca) (some 43) rfl rfl (by kernel_rfl) (by kernel_rfl) (by kernel_rfl) (Or.inl ⟨by rfl, ?_⟩) HB5.out ?_
              · intro w1 hS1
                go_simp
              simp only [Act.put, List.setIfInBounds_toArray, List.set_cons_zero, List.set_cons_succ]
              refine takeH (i := 10) (v := .int .i64 (i : Int)) (some 44) rfl rfl (by kernel_rfl) (by kernel_rfl) (by kernel_rfl) (Or.inl ⟨by rfl, ?_⟩) HB5.out ?_
              · intro w1 hS1
                go_simp
              simp only [Act.put, List.setIfInBounds_toArray, List.set_cons_zero, List.set_cons_succ]
              refine takeH (i := 11) (v := .pointer (some ⟨ga, oa + i, none⟩)) (some 45) rfl rfl (by kernel_rfl) (by kernel_rfl) (by kernel_rfl) (Or.inl ⟨by rfl, ?_⟩) HB5.out ?_
              · intro w1 hS1
                go_simp
              simp only [Act.put, List.setIfInBounds_toArray, List.set_cons_zero, List.set_cons_succ]
              refine takeH (i := 12) (v := .slice pl la.length cl) (some 46) rfl rfl (by kernel_rfl) (by kernel_rfl) (by kernel_rfl) (Or.inl ⟨by rfl, ?_⟩) HB5.out ?_
              · intro w1 hS1
                have iA := (hS1.cell (p := ⟨ga, oa + i, none⟩) hga).trans iA
                go_simp
              simp only [Act.put, List.setIfInBounds_toArray, List.set_cons_zero, List.set_cons_succ]
              refine takeH (i := 13) (v := .pointer (some ⟨q, 0, none⟩)) (some 47) rfl rfl (by kernel_rfl) (by kernel_rfl) (by kernel_rfl) (Or.inl ⟨by rfl, ?_⟩) HB5.out ?_
              · intro w1 hS1
                go_simp
              simp only [Act.put, List.setIfInBounds_toArray, List.set_cons_zero, List.set_cons_succ]
              refine takeH (i := 14) (v := .int .i64 r) (some 48) rfl rfl (by kernel_rfl) (by kernel_rfl) (by kernel_rfl) (Or.inl ⟨by rfl, ?_⟩) HB5.out ?_
              · intro w1 hS1
                have bx0 := (hS1.cell (p := ⟨q, 0, none⟩) hqi).trans bx0
                go_simp
              simp only [Act.put, List.setIfInBounds_toArray, List.set_cons_zero, List.set_cons_succ]
              refine wpAnyH_all (rs := [15]) (by kernel_rfl) (by simp) ?_
              intro i8 hi8
              obtain rfl : i8 = 15 := by simpa using hi8
              refine wpOp_call (some 49) rfl rfl (by rfl) (f := 29) (args := #[.slice pl la.length cl, .int .i64 r]) (by go_simp) (HQh.out _ HB5.out) ?_
              rintro e6 w6 ⟨rfl, rfl⟩
              refine ⟨_, rfl, HB5.out, ?_⟩
              simp only [Act.put, List.setIfInBounds_toArray, List.set_cons_zero, List.set_cons_succ]
              refine takeH (i := 16) (v := .bool tn) (some 50) rfl rfl (by kernel_rfl) (by kernel_rfl) (by kernel_rfl) (Or.inl ⟨by rfl, ?_⟩) HB5.out ?_
              · intro w1 hS1
                go_simp
              simp only [Act.put, List.setIfInBounds_toArray, List.set_cons_zero, List.set_cons_succ]
              refine takeH (i := 17) (v := .bool tn) (some 10) rfl rfl (by kernel_rfl) (by kernel_rfl) (by kernel_rfl) (Or.inl ⟨by rfl, ?_⟩) HB5.out ?_
              · intro w1 hS1
                go_simp
              simp only [Act.put, List.setIfInBounds_toArray, List.set_cons_zero, List.set_cons_succ]
              refine wpAnyH_done (by kernel_rfl) ?_ _
              refine ⟨rfl, ?_⟩
              go_wp2_with fail
              go_meet
              case rel => exact ⟨tn, rfl, HTN.out.trans ⟨fun h => HPL.out.2 (.inr h), fun h => (HPL.out.1 h).resolve_left hd⟩, HB5⟩
          case rest =>
            obtain ⟨bb, rfl, hbb, HBx⟩ := hcut
            have hxq := (HBx.out.block q hqi).trans HI.out.2.1
            have HBel : Hid (Below wo.heap.size wo wc) := Lib.hid (HI.out.1.trans (HBx.out.mono HI.out.1.size))
            have hqc : q < wc.heap.size := (Array.getElem?_eq_some_iff.1 hxq).1
            clear k0 k1 k2' k3' k4 k5 k6 iA bx0
            cases bb with
            | false =>
              have hnp : ¬ Pl c r i := fun h => by have := hbb.2 h; cases this
              have HN := Lib.hid (HI.out.2.2.no hnp)
              cases st with
              | none =>
                have HXQ := Lib.hid hxq
                have bx1 : wc.cell? ⟨q, 1, none⟩ = some (.int .i64 (-1)) := by rw [cell_of_row _ _ _ _ _ _ hxq]; rfl
                clear hxq
                go_wp2
                go_quiet (fail)
                go_wp2
                go_roundw
                case rel => exact ⟨i + 1, none, by go_num, by omega, Lib.hid ⟨below_like HBel.out rfl rfl rfl rfl, HXQ.out, HN.out⟩⟩
                case measure => (simp [intOf]; try omega)
              | some p =>
                have HXQ := Lib.hid hxq
                have bx0 : wc.cell? ⟨q, 0, none⟩ = some (.int .i64 r) := by rw [cell_of_row _ _ _ _ _ _ hxq]; rfl
                have bx1 : wc.cell? ⟨q, 1, none⟩ = some (.int .i64 (p.1 : Int)) := by rw [cell_of_row _ _ _ _ _ _ hxq]; rfl
                have hp0 : (0 : Int) ≤ (p.1 : Int) := by omega
                obtain ⟨SB, hSB, hNB⟩ := HBR.out wc (HR.out.1.trans (HBel.out.mono HR.out.1.size))
                obtain ⟨gb, ob, eb, hgb, iB⟩ := hSB i hil
                subst eb
                obtain ⟨lb, ⟨plb, clb, elb, hlb⟩, hb1, -, hb3⟩ := hNB i hil
                rw [elb] at iB
                have hdec : decide (r ∈ lb) = false := decide_eq_false fun h => hnp (bh_pl hr0 hil ((hb3 r).1 h))
                have HQb : Hid (∀ n, Calls Tryd.prog 29 #[.slice plb lb.length clb, .int .i64 r] (wc.drewN n) fun e w' => e = .returned (.bool false) ∧ w' = wc.drewN n) := Lib.hid fun n => by
                  rw [← hdec]
                  exact rhas_q (Lib.hid (show RV (wc.drewN n) plb lb.length (ivl lb) from hlb)) hb1 r
                clear hxq hSB hNB hlb hb3 elb hdec hbb
                go_wp2
                go_quiet ((go_at_call 29; exact Calls.quiet_of_same (HQb.out _)))
                go_wp2
                go_roundw
                case rel => exact ⟨i + 1, some p, by go_num, by omega, Lib.hid ⟨below_like HBel.out rfl rfl rfl rfl, HXQ.out, HN.out⟩⟩
                case measure => (simp [intOf]; try omega)
            | true =>
              have HN := Lib.hid (HI.out.2.2.yes (hbb.1 rfl))
              have fx1 : wc.frozen? ⟨q, 1, none⟩ = false := frozen_of_row wc q 1 _ _ hxq
              have fx2 : wc.frozen? ⟨q, 2, none⟩ = false := frozen_of_row wc q 2 _ _ hxq
              cases st with
              | none =>
                have HXQ := Lib.hid hxq
                have bx1 : wc.cell? ⟨q, 1, none⟩ = some (.int .i64 (-1)) := by rw [cell_of_row _ _ _ _ _ _ hxq]; rfl
                have bx2 : wc.cell? ⟨q, 2, none⟩ = some (.int .i64 (-1)) := by rw [cell_of_row _ _ _ _ _ _ hxq]; rfl
                clear hxq
                go_upto_region 15 with (fail)
                refine region_held1 (fun _ => True) (by kernel_rfl) ?_
                show wpAnyH _ _ _ _ _ 15 _ _ _
                refine takeH (i := 0) (v := .bool true) (some 59) rfl rfl (by kernel_rfl) (by kernel_rfl) (by kernel_rfl) (Or.inl ⟨by rfl, ?_⟩) trivial ?_
                · intro w1 hS1
                  go_simp
                simp only [Act.put, List.setIfInBounds_toArray, List.set_cons_zero, List.set_cons_succ]
                refine takeH (i := 1) (v := .bool true) (some 60) rfl rfl (by kernel_rfl) (by kernel_rfl) (by kernel_rfl) (Or.inl ⟨by rfl, ?_⟩) trivial ?_
                · intro w1 hS1
                  go_simp
                simp only [Act.put, List.setIfInBounds_toArray, List.set_cons_zero, List.set_cons_succ]
                refine takeH (i := 2) (v := undef) (some 61) rfl rfl (by kernel_rfl) (by kernel_rfl) (by kernel_rfl) (Or.inr ⟨by rfl, rfl⟩) trivial ?_
                simp only [Act.put, List.setIfInBounds_toArray, List.set_cons_zero, List.set_cons_succ]
                refine takeH (i := 3) (v := undef) (some 62) rfl rfl (by kernel_rfl) (by kernel_rfl) (by kernel_rfl) (Or.inr ⟨by rfl, rfl⟩) trivial ?_
                simp only [Act.put, List.setIfInBounds_toArray, List.set_cons_zero, List.set_cons_succ]
                refine takeH (i := 4) (v := undef) (some 63) rfl rfl (by kernel_rfl) (by kernel_rfl) (by kernel_rfl) (Or.inr ⟨by rfl, rfl⟩) trivial ?_
                simp only [Act.put, List.setIfInBounds_toArray, List.set_cons_zero, List.set_cons_succ]
                refine takeH (i := 5) (v := undef) (some 64) rfl rfl (by kernel_rfl) (by kernel_rfl) (by kernel_rfl) (Or.inr ⟨by rfl, rfl⟩) trivial ?_
                simp only [Act.put, List.setIfInBounds_toArray, List.set_cons_zero, List.set_cons_succ]
                refine takeH (i := 6) (v := undef) (some 65) rfl rfl (by kernel_rfl) (by kernel_rfl) (by kernel_rfl) (Or.inr ⟨by rfl, rfl⟩) trivial ?_
                simp only [Act.put, List.setIfInBounds_toArray, List.set_cons_zero, List.set_cons_succ]
                refine takeH (i := 7) (v := undef) (some 66) rfl rfl (by kernel_rfl) (by kernel_rfl) (by kernel_rfl) (Or.inr ⟨by rfl, rfl⟩) trivial ?_
                simp only [Act.put, List.setIfInBounds_toArray, List.set_cons_zero, List.set_cons_succ]
                refine takeH (i := 8) (v := undef) (some 67) rfl rfl (by kernel_rfl) (by kernel_rfl) (by kernel_rfl) (Or.inr ⟨by rfl, rfl⟩) trivial ?_
                simp only [Act.put, List.setIfInBounds_toArray, List.set_cons_zero, List.set_cons_succ]
                refine takeH (i := 9) (v := undef) (some 68) rfl rfl (by kernel_rfl) (by kernel_rfl) (by kernel_rfl) (Or.inr ⟨by rfl, rfl⟩) trivial ?_
                simp only [Act.put, List.setIfInBounds_toArray, List.set_cons_zero, List.set_cons_succ]
                refine takeH (i := 10) (v := undef) (some 69) rfl rfl (by kernel_rfl) (by kernel_rfl) (by kernel_rfl) (Or.inr ⟨by rfl, rfl⟩) trivial ?_
                simp only [Act.put, List.setIfInBounds_toArray, List.set_cons_zero, List.set_cons_succ]
                refine takeH (i := 11) (v := undef) (some 70) rfl rfl (by kernel_rfl) (by kernel_rfl) (by kernel_rfl) (Or.inr ⟨by rfl, rfl⟩) trivial ?_
                simp only [Act.put, List.setIfInBounds_toArray, List.set_cons_zero, List.set_cons_succ]
                refine takeH (i := 12) (v := undef) (some 71) rfl rfl (by kernel_rfl) (by kernel_rfl) (by kernel_rfl) (Or.inr ⟨by rfl, rfl⟩) trivial ?_
                simp only [Act.put, List.setIfInBounds_toArray, List.set_cons_zero, List.set_cons_succ]
                refine takeH (i := 13) (v := undef) (some 72) rfl rfl (by kernel_rfl) (by kernel_rfl) (by kernel_rfl) (Or.inr ⟨by rfl, rfl⟩) trivial ?_
                simp only [Act.put, List.setIfInBounds_toArray, List.set_cons_zero, List.set_cons_succ]
                refine takeH (i := 14) (v := .bool true) (some 73) rfl rfl (by kernel_rfl) (by kernel_rfl) (by kernel_rfl) (Or.inl ⟨by rfl, ?_⟩) trivial ?_
                · intro w1 hS1
                  go_simp
                simp only [Act.put, List.setIfInBounds_toArray, List.set_cons_zero, List.set_cons_succ]
                refine wpAnyH_done (by kernel_rfl) ?_ _
                refine ⟨rfl, ?_⟩
                go_wp2
                go_roundw
                case rel => exact ⟨i + 1, some (i, i), by go_num, by omega, Lib.hid ⟨((below_like (HBel.out.setCell (p := ⟨q, 1, none⟩) hqo (.int .i64 (i : Int))) rfl rfl rfl rfl : Below wo.heap.size wo (wc.setCell ⟨q, 1, none⟩ (.int .i64 (i : Int))).drew).setCell (p := ⟨q, 2, none⟩) hqo _), heap_setCell_same _ q 2 _ _ _ (heap_setCell_same wc q 1 _ _ _ HXQ.out), HN.out⟩⟩
                case measure => (simp [intOf]; try omega)
              | some p =>
                have HXQ := Lib.hid hxq
                have bx1 : wc.cell? ⟨q, 1, none⟩ = some (.int .i64 (p.1 : Int)) := by rw [cell_of_row _ _ _ _ _ _ hxq]; rfl
                have bx2 : wc.cell? ⟨q, 2, none⟩ = some (.int .i64 (p.2 : Int)) := by rw [cell_of_row _ _ _ _ _ _ hxq]; rfl
                have hp0 : ¬ (p.1 : Int) < 0 := by omega
                clear hxq
                go_upto_region 15 with (fail)
                refine region_held1 (fun _ => True) (by kernel_rfl) ?_
                show wpAnyH _ _ _ _ _ 15 _ _ _
                refine takeH (i := 0) (v := .bool true) (some 59) rfl rfl (by kernel_rfl) (by kernel_rfl) (by kernel_rfl) (Or.inl ⟨by rfl, ?_⟩) trivial ?_
                · intro w1 hS1
                  go_simp
                simp only [Act.put, List.setIfInBounds_toArray, List.set_cons_zero, List.set_cons_succ]
                refine takeH (i := 1) (v := .bool true) (some 60) rfl rfl (by kernel_rfl) (by kernel_rfl) (by kernel_rfl) (Or.inl ⟨by rfl, ?_⟩) trivial ?_
                · intro w1 hS1
                  go_simp
                simp only [Act.put, List.setIfInBounds_toArray, List.set_cons_zero, List.set_cons_succ]
                refine takeH (i := 2) (v := undef) (some 61) rfl rfl (by kernel_rfl) (by kernel_rfl) (by kernel_rfl) (Or.inr ⟨by rfl, rfl⟩) trivial ?_
                simp only [Act.put, List.setIfInBounds_toArray, List.set_cons_zero, List.set_cons_succ]
                refine takeH (i := 3) (v := undef) (some 62) rfl rfl (by kernel_rfl) (by kernel_rfl) (by kernel_rfl) (Or.inr ⟨by rfl, rfl⟩) trivial ?_
                simp only [Act.put, List.setIfInBounds_toArray, List.set_cons_zero, List.set_cons_succ]
                refine takeH (i := 4) (v := undef) (some 63) rfl rfl (by kernel_rfl) (by kernel_rfl) (by kernel_rfl) (Or.inr ⟨by rfl, rfl⟩) trivial ?_
                simp only [Act.put, List.setIfInBounds_toArray, List.set_cons_zero, List.set_cons_succ]
                refine takeH (i := 5) (v := undef) (some 64) rfl rfl (by kernel_rfl) (by kernel_rfl) (by kernel_rfl) (Or.inr ⟨by rfl, rfl⟩) trivial ?_
                simp only [Act.put, List.setIfInBounds_toArray, List.set_cons_zero, List.set_cons_succ]
                refine takeH (i := 6) (v := undef) (some 65) rfl rfl (by kernel_rfl) (by kernel_rfl) (by kernel_rfl) (Or.inr ⟨by rfl, rfl⟩) trivial ?_
                simp only [Act.put, List.setIfInBounds_toArray, List.set_cons_zero, List.set_cons_succ]
                refine takeH (i := 7) (v := undef) (some 66) rfl rfl (by kernel_rfl) (by kernel_rfl) (by kernel_rfl) (Or.inr ⟨by rfl, rfl⟩) trivial ?_
                simp only [Act.put, List.setIfInBounds_toArray, List.set_cons_zero, List.set_cons_succ]
                refine takeH (i := 8) (v := undef) (some 67) rfl rfl (by kernel_rfl) (by kernel_rfl) (by kernel_rfl) (Or.inr ⟨by rfl, rfl⟩) trivial ?_
                simp only [Act.put, List.setIfInBounds_toArray, List.set_cons_zero, List.set_cons_succ]
                refine takeH (i := 9) (v := undef) (some 68) rfl rfl (by kernel_rfl) (by kernel_rfl) (by kernel_rfl) (Or.inr ⟨by rfl, rfl⟩) trivial ?_
                simp only [Act.put, List.setIfInBounds_toArray, List.set_cons_zero, List.set_cons_succ]
                refine takeH (i := 10) (v := undef) (some 69) rfl rfl (by kernel_rfl) (by kernel_rfl) (by kernel_rfl) (Or.inr ⟨by rfl, rfl⟩) trivial ?_
                simp only [Act.put, List.setIfInBounds_toArray, List.set_cons_zero, List.set_cons_succ]
                refine takeH (i := 11) (v := undef) (some 70) rfl rfl (by kernel_rfl) (by kernel_rfl) (by kernel_rfl) (Or.inr ⟨by rfl, rfl⟩) trivial ?_
                simp only [Act.put, List.setIfInBounds_toArray, List.set_cons_zero, List.set_cons_succ]
                refine takeH (i := 12) (v := undef) (some 71) rfl rfl (by kernel_rfl) (by kernel_rfl) (by kernel_rfl) (Or.inr ⟨by rfl, rfl⟩) trivial ?_
                simp only [Act.put, List.setIfInBounds_toArray, List.set_cons_zero, List.set_cons_succ]
                refine takeH (i := 13) (v := undef) (some 72) rfl rfl (by kernel_rfl) (by kernel_rfl) (by kernel_rfl) (Or.inr ⟨by rfl, rfl⟩) trivial ?_
                simp only [Act.put, List.setIfInBounds_toArray, List.set_cons_zero, List.set_cons_succ]
                refine takeH (i := 14) (v := .bool true) (some 73) rfl rfl (by kernel_rfl) (by kernel_rfl) (by kernel_rfl) (Or.inl ⟨by rfl, ?_⟩) trivial ?_
                · intro w1 hS1
                  go_simp
                simp only [Act.put, List.setIfInBounds_toArray, List.set_cons_zero, List.set_cons_succ]
                refine wpAnyH_done (by kernel_rfl) ?_ _
                refine ⟨rfl, ?_⟩
                go_wp2
                go_roundw
                case rel => exact ⟨i + 1, some (p.1, i), by go_num, by omega, Lib.hid ⟨((below_like HBel.out rfl rfl rfl rfl : Below wo.heap.size wo wc.drew).setCell (p := ⟨q, 2, none⟩) hqo _), heap_setCell_same _ q 2 _ _ _ HXQ.out, HN.out⟩⟩
                case measure => (simp [intOf]; try omega)
        · obtain rfl : i = c.length := by omega
          obtain ⟨p, rfl⟩ : ∃ p, st = some p := by
            cases st with
            | none =>
              obtain ⟨j, hj⟩ := (HRM.out r (List.mem_of_getElem? HRr.out)).2.2
              exact absurd hj (HI.out.2.2 j (pl_lt hj))
            | some p => exact ⟨p, rfl⟩
          have bx0 : wi.cell? ⟨q, 0, none⟩ = some (.int .i64 r) := by rw [cell_of_row _ _ _ _ _ _ HI.out.2.1]; rfl
          have bx1 : wi.cell? ⟨q, 1, none⟩ = some (.int .i64 (p.1 : Int)) := by rw [cell_of_row _ _ _ _ _ _ HI.out.2.1]; rfl
          have bx2 : wi.cell? ⟨q, 2, none⟩ = some (.int .i64 (p.2 : Int)) := by rw [cell_of_row _ _ _ _ _ _ HI.out.2.1]; rfl
          have hp0 : (0 : Int) ≤ (p.1 : Int) := by omega
          have HRi := Lib.hid (HR.out.2.1.stay HI.out.1)
          obtain ⟨qv, cv, ev, -⟩ := HRi.out.open
          subst ev
          have hLl : L.length ≤ 64 := by
            have := congrArg List.length HR.out.2.2.up
            rw [List.length_map, List.length_take] at this
            omega
          have hVi : V.heap.size ≤ wi.heap.size := Nat.le_trans HR.out.1.size HI.out.1.size
          go_wp2_with (at_builtin; refine wpList_append_own_at _ rfl _ _ 27 rfl V.heap.size 31 i0 _ 3 24 Tryd.underlying27 hi0 hz0 hz1 hz2 rfl (by decide) (.slice qv L.length cv) L.length (L.flatMap rtc) rfl (World.ownsRow.alloc HRi.out _) ⟨wi.heap.size, 0, none⟩ 1 1 (rtc (r, p.1, p.2)) rfl rfl ?c1 ?c2 ?c3 ?c4 ?c5 ?_)
          case c1 => exact World.news_of_block (heap_alloc_new _ _)
          case c2 => intro y hy; simp [rtc] at hy; rcases hy with rfl | rfl | rfl <;> rfl
          case c3 => unfold maxLen; omega
          case c4 => omega
          case c5 => simp; omega
          intro v4 w4 hown hgrow _ hats
          have HG := Lib.hid (R3.more (x := (r, p.1, p.2)) hown)
          have HB4 : Hid (Below V.heap.size V w4) := Lib.hid (((HR.out.1.trans (HI.out.1.mono HR.out.1.size)).alloc (by omega) _).grown hgrow (by simp; omega) fun z e => (HRi.out.lt z e).1)
          have HJ := Lib.hid (HR.out.2.2.next HRr.out HI.out.2.2)
          clear hown hgrow hats
          go_wp2
          go_roundw
          case rel => exact ⟨k + 1, v4, _, rfl, by go_num, by omega, Lib.hid ⟨HB4.out, HG.out, HJ.out⟩⟩
          case measure => (simp [intOf]; try omega)
    · obtain rfl : k = R.length := by omega
      obtain ⟨q, cq, ev, -⟩ := HR.out.2.1.open
      subst ev
      go_wp2
      go_ret
      have h3 := HR.out.2.2.up
      rw [List.take_length] at h3
      have hll := congrArg List.length h3
      rw [List.length_map] at hll
      exact ⟨_, L, rfl, ⟨by rw [h3]; exact HV.out.2.1.up, fun r => by rw [h3]; exact ⟨fun h => (HRM.out r h).2.2, HRA.out r⟩, HR.out.2.2.pl⟩, HR.out.2.1.mono hWV.out.size, by omega, hWV.out.trans (HR.out.1.mono hWV.out.size)⟩
end Go.Proofs.YthodpkcjdbkdnaaDoor
namespace Go.Proofs.YthodpkcjdbkdnaaDoor
open Go Go.RowKit Gm

/-- The greatest number of the places that are told. -/
def MostD (c : List Ic) (D : Nat → Prop) (m : Nat) : Prop := (∀ j l, D j → IsRow (fun r => Nd c r j) l → l.length ≤ m) ∧ (m = 0 ∨ ∃ j l, D j ∧ IsRow (fun r => Nd c r j) l ∧ l.length = m)
section
variable {c : List Ic} {D D' : Nat → Prop} {i m : Nat} {l : List Int}
theorem MostD.zero (h : ∀ i, ¬ D i) : MostD c D 0 := ⟨fun j _ hj => absurd hj (h j), .inl rfl⟩
theorem MostD.to (h : MostD c D m) (e : ∀ i, D' i ↔ D i) : MostD c D' m := ⟨fun j l hj => h.1 j l ((e j).1 hj), h.2.imp id fun ⟨j, l, a, b⟩ => ⟨j, l, (e j).2 a, b⟩⟩
theorem MostD.next (h : MostD c D m) (hl : IsRow (fun r => Nd c r i) l) (e : ∀ j, D' j ↔ D j ∨ j = i) : MostD c D' (max m l.length) := by
  refine ⟨fun j k hj hk => ?_, ?_⟩
  · rcases (e j).1 hj with hj | rfl
    · have := h.1 j k hj hk
      omega
    · rw [hk.one hl]
      omega
  · by_cases e2 : m < l.length
    · exact .inr ⟨i, l, (e i).2 (.inr rfl), hl, by omega⟩
    · rcases h.2 with h0 | ⟨j, k, a, b, d⟩
      · exact .inl (by omega)
      · exact .inr ⟨j, k, (e j).2 (.inl a), b, by omega⟩
end
theorem rowM_is {m : Nat} {T : Int → Prop} (hl : m < 18446744073709551616) (h : ∀ r, Bt m r ↔ T r) : IsRow T (rowM m) := ⟨rowM_up m, fun r => (rowM_mem hl).trans (h r)⟩
def MstP (W : World) (c : List Ic) (e : Ending) (w' : World) : Prop := ∃ m : Nat, e = .returned (.int .i64 m) ∧ MostOf c c.length m ∧ Below W.heap.size W w'
set_option maxRecDepth 100000 in
set_option maxHeartbeats 4000000 in
theorem lmost_c {W : World} {p : Option Addr} {cap : Nat} {c : List Ic} (hc : Hid (CodeAt W p c)) (E : Hid (En W)) (hsm : Hid (Sm c)) (hn : c.length ≤ 50000) : Calls Tryd.prog 16 #[.slice p c.length cap] W (MstP W c) := by
  have HND := Lib.hid (needs_c (cap := cap) hc E hsm hn)
  go_enter Tryd.func16, Tryd.ntmps16
  go_upto_region 2 with (go_at_call 26; (with_reducible refine HND.out.mono ?_); rintro e1 V ⟨nb, K, fs, es, gt, gf, vs, va, bs, A, rfl, hnd, hb1⟩; have HN := Lib.hid hnd; have HV := Lib.hid hb1; clear hnd hb1)
  obtain ⟨vsp, vsc, evs, hss⟩ := HN.out.sr
  subst evs
  obtain ⟨nl, n0, n1, n2⟩ := HN.out.cells
  have HSS := Lib.hid hss
  go_upto_region 3 with (fail)
  clear n0 n1 n2 nl hss
  go_loopw [4, 17] (fun a4 a17 wr => ∃ (s m : Nat), a4 = .int .i64 m ∧ a17 = .int .i64 s ∧ s ≤ K ∧ m ≤ 64 ∧ Hid (Below V.heap.size V wr ∧ MostD c (fun i => ∃ t, t < s ∧ fs t ≤ i ∧ i ≤ es t) m)) (fun _ a17 _ => K - (intOf a17).toNat)
  case atStart => exact ⟨0, 0, rfl, rfl, Nat.zero_le _, by omega, Lib.hid ⟨Below.refl _ _, .zero fun i ⟨t, ht, _⟩ => by omega⟩⟩
  case round =>
    obtain ⟨wo, rfl⟩ : ∃ wo : World, wo = wr := ⟨_, rfl⟩
    obtain ⟨s, m, rfl, rfl, hs, hm, HR⟩ := hrel
    have hKl := HN.out.kl
    by_cases hsK : s < K
    · have hle := HN.out.cu.le hsK
      have hNo := HN.out.stay HR.out.1
      obtain ⟨_, _, e', hss⟩ := hNo.sr
      cases e'
      obtain ⟨gs, ep, hgs, c0, c1, p2, k2, p3, k3, c2, c3, -⟩ := hss s hsK
      subst ep
      have HNo := Lib.hid hNo
      clear hNo hss
      go_upto_region 5 with (fail)
      refine name_world ?_
      intro V3 hV3
      obtain ⟨q, hq⟩ : ∃ q, wo.heap.size = q := ⟨_, rfl⟩
      have HB3 : Hid (Below wo.heap.size wo V3) := Lib.hid (by rw [hV3]; exact below1 _ _)
      have HX3 : Hid (V3.heap[q]? = some (.cells #[.int .i64 (fs s : Int), .int .i64 (es s : Int), .slice p2 (gf s).length k2, .slice p3 (gt s).length k3] 62 (0, 0))) := Lib.hid (by rw [hV3, ← hq]; exact heap_alloc_new wo _)
      have HN3 := Lib.hid (HNo.out.stay HB3.out)
      have HBE := Lib.hid (behind1_c HN3 hsK)
      have HQ := Lib.hid hq
      try rw [hq]
      clear hV3 hq c0 c1 c2 c3
      have HV3 : Hid (Below V.heap.size V V3) := Lib.hid (HR.out.1.trans (HB3.out.mono HR.out.1.size))
      have HW3 : Hid (Below W.heap.size W V3) := Lib.hid (HV.out.trans (HV3.out.mono HV.out.size))
      go_upto_region 7 with (first
        | (go_at_call 34; (with_reducible refine HBE.out.mono ?_); rintro e5 w5 ⟨b5, m5, rfl, hs5, hm5, hl5, hb5⟩; have HV5 := Lib.hid (And.intro hs5 (And.intro hm5 (And.intro hl5 hb5))); have HMY := Lib.hid (many_c (Lib.hid hs5)); clear hs5 hm5 hl5 hb5)
        | (go_at_call 35; (with_reducible refine HMY.out.mono ?_); rintro e6 w6 ⟨rfl, hb6⟩; have HB6 := Lib.hid hb6; clear hb6))
      have hb36 : Below V3.heap.size V3 w6 := HV5.out.2.2.2.trans (HB6.out.mono HV5.out.2.2.2.size)
      have hs3 : q < V3.heap.size := (Array.getElem?_eq_some_iff.1 HX3.out).1
      have hx6 := (hb36.block q hs3).trans HX3.out
      have HS6 := Lib.hid (HV5.out.1.stay HB6.out)
      have HB36 := Lib.hid hb36
      have bx1 : w6.cell? ⟨q, 1, none⟩ = some (.int .i64 (es s : Int)) := by rw [cell_of_row _ _ _ _ _ _ hx6]; rfl
      clear hb36 hx6
      go_upto_region 8 with (fail)
      clear bx1
      go_loopw [4, 8, 9] (fun a4 a8 a9 wr => ∃ (j m m1 : Nat), a4 = .int .i64 m ∧ a8 = .int .i64 (rowM m1).length ∧ a9 = .int .i64 ((j : Int) - 1) ∧ fs s ≤ j ∧ j ≤ es s + 1 ∧ m ≤ 64 ∧ Hid (Below V3.heap.size V3 wr ∧ ST wr b5 m1 ∧ MostD c (fun i => (∃ t, t < s ∧ fs t ≤ i ∧ i ≤ es t) ∨ (j ≤ i ∧ i ≤ es s)) m ∧ (fs s < j → ∀ r, Bt m1 r ↔ Bh c r (j - 1)))) (fun _ _ a9 _ => (intOf a9 + 1).toNat)
      case atStart => exact ⟨es s + 1, m, m5, rfl, rfl, by simp, by omega, by omega, hm, Lib.hid ⟨HB36.out, HS6.out, HR.out.2.to fun i => ⟨fun h => h.resolve_right (by omega), .inl⟩, fun _ => HV5.out.2.1⟩⟩
      case round =>
        clear HB6 HB36 HMY HBE HS6 HR
        obtain ⟨wi, rfl⟩ : ∃ wo : World, wo = wr := ⟨_, rfl⟩
        obtain ⟨j, m, m1, rfl, rfl, rfl, hj1, hj2, hm64, HI⟩ := hrel
        have hxm := (HI.out.1.block q hs3).trans HX3.out
        have bx0 : wi.cell? ⟨q, 0, none⟩ = some (.int .i64 (fs s : Int)) := by rw [cell_of_row _ _ _ _ _ _ hxm]; rfl
        have hl1 := rowM_len m1
        clear hxm
        by_cases hlt : fs s < j
        · obtain ⟨i, rfl⟩ : ∃ i, j = i + 1 := ⟨j - 1, by omega⟩
          obtain ⟨x, hx⟩ : ∃ x, c[i]? = some x := ⟨_, List.getElem?_eq_getElem (by omega)⟩
          have hil : i < c.length := by omega
          have hbi : Below W.heap.size W wi := HW3.out.trans (HI.out.1.mono HW3.out.size)
          obtain ⟨gc, oc, ep, hgc, hat7, hok⟩ := (hc.out.stay hbi) i x hx
          have k0 := hat7.k
          have k1 := hat7.o
          have k2' := hat7.d
          have k3' := hat7.a
          have k4 := hat7.b
          have k5 := hat7.n
          have k6 := hat7.t
          have HUP := Lib.hid (up_c (Lib.hid HI.out.2.1) (Lib.hid (E.out.below hbi)) x (hsm.out i x hx))
          have hbt := HI.out.2.2.2 hlt
          rw [Nat.add_sub_cancel] at hbt
          have hrow : IsRow (fun r => Nd c r i) (rowM (upM x m1)) := rowM_is (upM_lt (hsm.out i x hx) HI.out.2.1.lt) fun r => by rw [upM_bt (hsm.out i x hx) HI.out.2.1.lt, hbt, Nd.iff hx]
          have HROW := Lib.hid hrow
          have hl2 := rowM_len (upM x m1)
          obtain ⟨m2, hm2⟩ : ∃ m2, upM x m1 = m2 := ⟨_, rfl⟩
          rw [hm2] at HUP HROW hl2
          subst ep
          clear hat7 hok hbt hrow hm2 hbi
          go_upto_region 11 with (go_at_call 36; (with_reducible refine HUP.out.mono ?_); rintro e7 w7 ⟨n7, rfl, hn7, hs7, hc7⟩; have HS7 := Lib.hid hs7; have HN7 := Lib.hid hn7; have HC7 := Lib.hid hc7; have hn7b : (rowM m1).length + n7 ≤ 64 ∧ 0 ≤ (rowM m1).length + n7 := (by omega); clear hn7 hs7 hc7)
          rw [← HN7.out]
          have hmx : (max (m : Int) ((rowM m2).length : Int)) = ((max m (rowM m2).length : Nat) : Int) := by omega
          clear k0 k1 k2' k3' k4 k5 k6 bx0
          go_wp2
          go_roundw
          case rel =>
            refine ⟨i, max m (rowM m2).length, m2, by first | rfl | rw [← hmx], rfl, by first | go_num | (simp; try omega), by omega, by omega, by omega, Lib.hid ⟨HI.out.1.trans (HC7.out.below HI.out.1.size fun z hz e => by have := HV5.out.2.2.1; omega), HS7.out, HI.out.2.2.1.next HROW.out fun z => ?_, fun hfi r => ?_⟩⟩
            · constructor
              · rintro (h | ⟨h1, h2⟩)
                · exact .inl (.inl h)
                · by_cases e : z = i
                  · exact .inr e
                  · exact .inl (.inr ⟨by omega, h2⟩)
              · rintro ((h | ⟨h1, h2⟩) | rfl)
                · exact .inl h
                · exact .inr ⟨by omega, h2⟩
                · exact .inr ⟨Nat.le_refl _, by omega⟩
            · rw [HN.out.cu.bh_in hsK (show fs s ≤ i - 1 by omega) (by omega), show i - 1 + 1 = i by omega]
              exact (rowM_mem HS7.out.lt).symm.trans (HROW.out.2 r)
          case measure => (simp [intOf]; try omega)
        · obtain rfl : j = fs s := by omega
          go_wp2
          go_roundw
          case rel => exact ⟨s + 1, m, rfl, by go_num, by omega, hm64, Lib.hid ⟨HV3.out.trans (HI.out.1.mono HV3.out.size), HI.out.2.2.1.to fun i => ⟨fun ⟨t, ht, h1, h2⟩ => by
            by_cases e : t = s
            · subst e; exact .inr ⟨h1, h2⟩
            · exact .inl ⟨t, by omega, h1, h2⟩, fun h => h.elim (fun ⟨t, ht, h⟩ => ⟨t, by omega, h⟩) fun h => ⟨s, by omega, h⟩⟩⟩⟩
          case measure => (simp [intOf]; try omega)
    · obtain rfl : s = K := by omega
      go_wp2
      go_ret
      refine ⟨m, rfl, HR.out.2.to fun i => ⟨fun hi => ?_, fun ⟨t, ht, h1, h2⟩ => ?_⟩, HV.out.trans (HR.out.1.mono HV.out.size)⟩
      · obtain ⟨of, hcut⟩ := HN.out.cu.cuts
        obtain ⟨h1, h2, h3⟩ := hcut.ofl i hi
        exact ⟨of i, h1, h2, h3⟩
      · have := HN.out.cu.le ht
        omega
end Go.Proofs.YthodpkcjdbkdnaaDoor
namespace Go.Proofs.YthodpkcjdbkdnaaDoor
open Go Go.RowKit Gm

def Sml (x : Ic) : Prop := x.d ≤ 30 ∧ x.a ≤ 30 ∧ x.b ≤ 30
def SmallP (W : World) (c : List Ic) (e : Ending) (w' : World) : Prop := ∃ b, e = .returned (.bool b) ∧ (b = true → Sm c ∧ c.length ≤ 30) ∧ Below W.heap.size W w'
set_option maxRecDepth 100000 in
set_option maxHeartbeats 4000000 in
theorem small_c {W : World} {p : Option Addr} {cap : Nat} {c : List Ic} (hc : Hid (CodeAt W p c)) (hn : c.length ≤ 9223372036854775807) : Calls Tryd.prog 8 #[.slice p c.length cap] W (SmallP W c) := by
  go_enter Tryd.func8, Tryd.ntmps8
  go_wp2
  go_loopw [3] (fun a wr => ∃ i : Nat, a = .int .i64 i ∧ i ≤ c.length ∧ Hid (Below W.heap.size W wr ∧ ∀ j x, j < i → c[j]? = some x → Sml x)) (fun a _ => c.length - (intOf a).toNat)
  case atStart => exact ⟨0, rfl, Nat.zero_le _, Lib.hid ⟨Below.refl _ _, fun j x h => by omega⟩⟩
  case round =>
    obtain ⟨wo, rfl⟩ : ∃ wo : World, wo = wr := ⟨_, rfl⟩
    obtain ⟨i, rfl, hi, HR⟩ := hrel
    by_cases hlt : i < c.length
    · obtain ⟨x, hx⟩ : ∃ x, c[i]? = some x := ⟨_, List.getElem?_eq_getElem hlt⟩
      obtain ⟨gc, oc, ep, hgc, hat7, hok⟩ := (hc.out.stay HR.out.1) i x hx
      have k2' := hat7.d
      have k3' := hat7.a
      have k4 := hat7.b
      subst ep
      have HX := Lib.hid hx
      clear hat7 hok hx
      by_cases h1 : 30 < x.d
      · go_wp2
        go_ret
        exact ⟨false, rfl, fun h => (by cases h), HR.out.1⟩
      · by_cases h2 : 30 < x.a
        · go_wp2
          go_ret
          exact ⟨false, rfl, fun h => (by cases h), HR.out.1⟩
        · by_cases h3 : 30 < x.b
          · go_wp2
            go_ret
            exact ⟨false, rfl, fun h => (by cases h), HR.out.1⟩
          · go_wp2
            go_roundw
            case rel => exact ⟨i + 1, by go_num, by omega, Lib.hid ⟨HR.out.1, fun j y hj hy => by
              by_cases e : j = i
              · subst e
                rw [HX.out] at hy
                cases hy
                exact ⟨by omega, by omega, by omega⟩
              · exact HR.out.2 j y (by omega) hy⟩⟩
            case measure => (simp [intOf]; try omega)
    · obtain rfl : i = c.length := by omega
      have HF : Hid (Sm c) := Lib.hid fun j x hx => by
        have := HR.out.2 j x (List.getElem?_eq_some_iff.1 hx).1 hx
        unfold Sml at this
        exact ⟨by omega, by omega, by omega⟩
      by_cases h30 : c.length ≤ 30
      · go_wp2
        go_ret
        exact ⟨_, rfl, fun _ => ⟨HF.out, h30⟩, HR.out.1⟩
      · have h30' : (30 : Int) < (c.length : Int) := by omega
        go_wp2
        go_ret
        exact ⟨_, rfl, fun h => by simp at h; omega, HR.out.1⟩
/-- Rows of rows that hold the same are told to be the same. -/
theorem nri_lv {X : World} {v : Value} {T : Int → Prop} (h : NRI X v T) (h0 : ∀ r, T r → 0 ≤ r) : ∃ (l : List Nat) (p : Option Addr) (cap : Nat), v = .slice p l.length cap ∧ RV X p l.length (lv l) ∧ l.length ≤ 1000000 ∧ (l.map Int.ofNat).Pairwise (· < ·) ∧ ∀ r, r ∈ l.map Int.ofNat ↔ T r := by
  obtain ⟨L, ⟨p, cap, e, hr⟩, hl, hu, hm⟩ := h
  have hL : (L.map Int.toNat).map Int.ofNat = L := by
    rw [List.map_map]
    conv => rhs; rw [← List.map_id L]
    refine List.map_congr_left fun r hr => ?_
    show Int.ofNat r.toNat = r
    have := h0 r ((hm r).1 hr)
    rw [Int.ofNat_eq_natCast, Int.toNat_of_nonneg this]
  refine ⟨L.map Int.toNat, p, cap, by rw [List.length_map]; exact e, ?_, by rw [List.length_map]; omega, by rw [hL]; exact hu, fun r => by rw [hL]; exact hm r⟩
  rw [List.length_map]
  exact hr.to fun i hi => by
    have h1 : (L[i]).toNat = L[i] := by
      have := h0 _ ((hm _).1 (List.getElem_mem hi))
      omega
    simp [ivl, lv, iv, List.getD_eq_getElem?_getD, hi]
    omega
set_option maxRecDepth 100000 in
set_option maxHeartbeats 4000000 in
theorem rows_c {W : World} {v1 v2 : Value} {n : Nat} {T : Nat → Int → Prop} (h1 : Hid (Rows2 W v1 n fun X i u => NRI X u (T i))) (h2 : Hid (Rows2 W v2 n fun X i u => NRI X u (T i))) (h0 : Hid (∀ i r, T i r → 0 ≤ r)) (hn : n ≤ 1000000) : Calls Tryd.prog 11 #[v1, v2] W fun e w' => e = .returned (.bool true) ∧ Below W.heap.size W w' := by
  obtain ⟨p, cp, S, e1, hp, hS⟩ := h1.out
  obtain ⟨q, cq, U, e2, hq, hU⟩ := h2.out
  subst e1
  subst e2
  have HP := Lib.hid (And.intro hp hS)
  have HQ := Lib.hid (And.intro hq hU)
  clear hp hS hq hU
  go_enter Tryd.func11, Tryd.ntmps11
  go_wp2
  go_loopw [5] (fun a wr => ∃ j : Nat, a = .int .i64 j ∧ j ≤ n ∧ Hid (Below W.heap.size W wr)) (fun a _ => n - (intOf a).toNat)
  case atStart => exact ⟨0, rfl, Nat.zero_le _, Lib.hid (Below.refl _ _)⟩
  case round =>
    obtain ⟨wo, rfl⟩ : ∃ wo : World, wo = wr := ⟨_, rfl⟩
    obtain ⟨j, rfl, hj, HR⟩ := hrel
    by_cases hlt : j < n
    · obtain ⟨g, o, rfl, -, i1⟩ := (HP.out.1.stay HR.out) j hlt
      obtain ⟨g', o', rfl, -, i2⟩ := (HQ.out.1.stay HR.out) j hlt
      obtain ⟨la, pa, ca, ea, ra, hla, hua, hma⟩ := nri_lv (HP.out.2 j hlt) (h0.out j)
      obtain ⟨lb, pb, cb, eb, rb, hlb, hub, hmb⟩ := nri_lv (HQ.out.2 j hlt) (h0.out j)
      rw [ea] at i1
      rw [eb] at i2
      have hab : la = lb := by
        have := up_sameI hua hub fun t => (hma t).trans (hmb t).symm
        have h3 := congrArg (List.map Int.toNat) this
        rw [List.map_map, List.map_map] at h3
        have h4 : ∀ l : List Nat, l.map (Int.toNat ∘ Int.ofNat) = l := fun l => by
          conv => rhs; rw [← List.map_id l]
          exact List.map_congr_left fun x _ => rfl
        rwa [h4, h4] at h3
      have HAB := Lib.hid hab
      have HA : Hid (RV wo.drew pa la.length (lv la)) := Lib.hid ((ra.stay HR.out).stay (below_drew1 _))
      have HB : Hid (RV wo.drew pb lb.length (lv lb)) := Lib.hid ((rb.stay HR.out).stay (below_drew1 _))
      have HBw : Hid (Below W.heap.size W wo.drew) := Lib.hid (HR.out.trans ((below_drew1 _).mono HR.out.size))
      clear ea ra eb rb hab hua hub hma hmb
      go_upto_region 6 with (fail)
      go_still_tail 8, (by kernel_rfl)
      obtain ⟨W2, hW2⟩ : ∃ W2, wo.drew = W2 := ⟨_, rfl⟩
      change wpList _ _ _ _ _ wo.drew
      rw [hW2] at HA HB HBw ⊢
      clear hW2
      go_upto_region 7 with (go_at_call 23; ((with_reducible refine (ints_any HA HB hla).mono ?_); rintro e5 w5 ⟨b5, rfl, h5, hb5⟩; have H5 := Lib.hid hb5; obtain rfl : b5 = true := h5.2 HAB.out; clear h5 hb5))
      go_wp2
      go_roundw
      case rel => exact ⟨j + 1, by go_num, by omega, Lib.hid (HBw.out.trans (H5.out.mono HBw.out.size))⟩
      case measure => (simp [intOf]; try omega)
    · obtain rfl : j = n := by omega
      go_wp2
      go_ret
      exact ⟨rfl, HR.out⟩
end Go.Proofs.YthodpkcjdbkdnaaDoor
namespace Go.Proofs.YthodpkcjdbkdnaaDoor
open Go Go.RowKit Gm

def c0 : List Ic := [⟨0, 0, 0, 0, 0, 1, 0⟩, ⟨11, 0, 0, 0, 0, 0, 0⟩, ⟨13, 0, 0, 0, 0, 0, 0⟩]
theorem c0_u0 : usesM ⟨0, 0, 0, 0, 0, 1, 0⟩ = [] := by decide
theorem c0_u1 : usesM ⟨11, 0, 0, 0, 0, 0, 0⟩ = [0] := by decide
theorem c0_u2 : usesM ⟨13, 0, 0, 0, 0, 0, 0⟩ = [] := by decide
theorem c0_d0 : defM ⟨0, 0, 0, 0, 0, 1, 0⟩ = 0 := by decide
theorem c0_d1 : defM ⟨11, 0, 0, 0, 0, 0, 0⟩ = -1 := by decide
theorem c0_d2 : defM ⟨13, 0, 0, 0, 0, 0, 0⟩ = -1 := by decide
theorem c0_o0 : outs c0 0 = [1] := by decide
theorem c0_o1 : outs c0 1 = [2] := by decide
theorem c0_o2 : outs c0 2 = [] := by decide
theorem nd0_2 (r : Int) : ¬ Nd c0 r 2 := fun h => by
  rcases (Nd.iff (x := ⟨13, 0, 0, 0, 0, 0, 0⟩) rfl).1 h with h | ⟨-, j, hj, -⟩
  · rw [c0_u2] at h; simp at h
  · rw [c0_o2] at hj; simp at hj
theorem nd0_1 (r : Int) : Nd c0 r 1 ↔ r = 0 := by
  rw [Nd.iff (x := ⟨11, 0, 0, 0, 0, 0, 0⟩) rfl, c0_u1]
  constructor
  · rintro (h | ⟨-, j, hj, h⟩)
    · simpa using h
    · rw [c0_o1] at hj
      obtain rfl : j = 2 := by simpa using hj
      exact absurd h (nd0_2 r)
  · rintro rfl; exact .inl (by simp)
theorem bh0_0 (r : Int) : Bh c0 r 0 ↔ r = 0 := by
  unfold Bh
  rw [c0_o0]
  simp [nd0_1]
theorem nd0_0 (r : Int) : ¬ Nd c0 r 0 := fun h => by
  rw [Nd.iff (x := ⟨0, 0, 0, 0, 0, 1, 0⟩) rfl, c0_u0, c0_d0, bh0_0] at h
  rcases h with h | ⟨h1, h2⟩
  · simp at h
  · exact h1 h2.symm
theorem pl0 (r : Int) (i : Nat) : Pl c0 r i ↔ r = 0 ∧ (i = 0 ∨ i = 1) := by
  constructor
  · intro h
    have hi := pl_lt h
    have hi3 : i < 3 := hi
    rcases h with ⟨x, hx, h⟩ | h
    · match i, hi3 with
      | 0, _ =>
        have : x = ⟨0, 0, 0, 0, 0, 1, 0⟩ := by simpa [c0] using hx.symm
        subst this
        rw [c0_u0, c0_d0] at h
        simp at h
        exact ⟨h.1.symm, .inl rfl⟩
      | 1, _ =>
        have : x = ⟨11, 0, 0, 0, 0, 0, 0⟩ := by simpa [c0] using hx.symm
        subst this
        rw [c0_u1, c0_d1] at h
        simp at h
        rcases h with h | h
        · exact ⟨h, .inr rfl⟩
        · omega
      | 2, _ =>
        have : x = ⟨13, 0, 0, 0, 0, 0, 0⟩ := by simpa [c0] using hx.symm
        subst this
        rw [c0_u2, c0_d2] at h
        simp at h
        omega
    · match i, hi3 with
      | 0, _ => exact absurd h (nd0_0 r)
      | 1, _ => exact ⟨(nd0_1 r).1 h, .inr rfl⟩
      | 2, _ => exact absurd h (nd0_2 r)
  · rintro ⟨rfl, rfl | rfl⟩
    · exact .inl ⟨⟨0, 0, 0, 0, 0, 1, 0⟩, rfl, .inr ⟨c0_d0, by omega⟩⟩
    · exact .inr ((nd0_1 0).2 rfl)
theorem rng0 {L : List Rt} (h : IsRng c0 L) : L = [(0, 0, 1)] := h.one ⟨by simp, fun r => by
  constructor
  · intro hr
    exact ⟨0, (pl0 r 0).2 ⟨by simpa using hr, .inl rfl⟩⟩
  · rintro ⟨i, hi⟩
    simpa using ((pl0 r i).1 hi).1, fun x hx => by
  have : x = (0, 0, 1) := by simpa using hx
  subst this
  exact ⟨(pl0 0 0).2 ⟨rfl, .inl rfl⟩, (pl0 0 1).2 ⟨rfl, .inr rfl⟩, fun i hi => by have := ((pl0 0 i).1 hi).2; simp only; omega⟩⟩
theorem row_nil {T : Int → Prop} {L : List Int} (hm : ∀ r, r ∈ L ↔ T r) (h : ∀ r, ¬ T r) : L = [] := by
  cases L with
  | nil => rfl
  | cons x L => exact absurd ((hm x).1 (by simp)) (h x)
theorem row_0 {T : Int → Prop} {L : List Int} (hu : L.Pairwise (· < ·)) (hm : ∀ r, r ∈ L ↔ T r) (h : ∀ r, T r ↔ r = 0) : L = [0] := up_sameI hu (by simp) fun t => by rw [hm, h]; simp
theorem most0 {m : Nat} (h : MostOf c0 c0.length m) : m = 1 := by
  have h1 := h.1 1 [0] (by decide) ⟨by simp, fun t => by (show t ∈ [0] ↔ Nd c0 t 1); rw [nd0_1]; simp⟩
  simp at h1
  rcases h.2 with h0 | ⟨j, l, hj, ⟨hu, hm⟩, hl⟩
  · omega
  · have hj3 : j < 3 := hj
    match j, hj3 with
    | 0, _ => have := row_nil hm nd0_0; subst this; simp at hl; omega
    | 1, _ => have := row_0 hu hm nd0_1; subst this; simpa using hl.symm
    | 2, _ => have := row_nil hm nd0_2; subst this; simp at hl; omega
theorem sm0 : Sm c0 := fun i x hx => by
  have hi : i < 3 := (List.getElem?_eq_some_iff.1 hx).1
  match i, hi with
  | 0, _ => have : x = ⟨0, 0, 0, 0, 0, 1, 0⟩ := by simpa [c0] using hx.symm
            subst this; exact ⟨by decide, by decide, by decide⟩
  | 1, _ => have : x = ⟨11, 0, 0, 0, 0, 0, 0⟩ := by simpa [c0] using hx.symm
            subst this; exact ⟨by decide, by decide, by decide⟩
  | 2, _ => have : x = ⟨13, 0, 0, 0, 0, 0, 0⟩ := by simpa [c0] using hx.symm
            subst this; exact ⟨by decide, by decide, by decide⟩
def cells0 : Array Value := #[.int .i64 0, .int .i64 0, .int .i64 0, .int .i64 0, .int .i64 0, .int .i64 1, .int .i64 0, .int .i64 11, .int .i64 0, .int .i64 0, .int .i64 0, .int .i64 0, .int .i64 0, .int .i64 0, .int .i64 13, .int .i64 0, .int .i64 0, .int .i64 0, .int .i64 0, .int .i64 0, .int .i64 0]
theorem code0 (W : World) : CodeAt (W.alloc (.cells cells0 39)) (some ⟨W.heap.size, 0, none⟩) c0 := fun i x hx => by
  have hi : i < 3 := (List.getElem?_eq_some_iff.1 hx).1
  have key : ∀ j u, cells0[j]? = some u → (W.alloc (.cells cells0 39)).cell? ⟨W.heap.size, j, none⟩ = some u := fun j u hu => by rw [cell_of_row _ _ _ _ _ _ (heap_alloc_new W _)]; exact hu
  match i, hi with
  | 0, _ =>
    have : x = ⟨0, 0, 0, 0, 0, 1, 0⟩ := by simpa [c0] using hx.symm
    subst this
    exact ⟨_, 0, rfl, by simp, ⟨key 0 _ rfl, key 1 _ rfl, key 2 _ rfl, key 3 _ rfl, key 4 _ rfl, key 5 _ rfl, key 6 _ rfl⟩, by simp [Ok6, In6]⟩
  | 1, _ =>
    have : x = ⟨11, 0, 0, 0, 0, 0, 0⟩ := by simpa [c0] using hx.symm
    subst this
    exact ⟨_, 0, rfl, by simp, ⟨key 7 _ rfl, key 8 _ rfl, key 9 _ rfl, key 10 _ rfl, key 11 _ rfl, key 12 _ rfl, key 13 _ rfl⟩, by simp [Ok6, In6]⟩
  | 2, _ =>
    have : x = ⟨13, 0, 0, 0, 0, 0, 0⟩ := by simpa [c0] using hx.symm
    subst this
    exact ⟨_, 0, rfl, by simp, ⟨key 14 _ rfl, key 15 _ rfl, key 16 _ rfl, key 17 _ rfl, key 18 _ rfl, key 19 _ rfl, key 20 _ rfl⟩, by simp [Ok6, In6]⟩
/-- A row of the number 0 alone. -/
def R0 (X : World) (v : Value) : Prop := ∃ p cap, v = .slice p 1 cap ∧ RV X p 1 (lv [0])
theorem r0_of {X : World} {v : Value} {T : Int → Prop} (h : NRI X v T) (ht : ∀ r, T r ↔ r = 0) : R0 X v := by
  obtain ⟨L, ⟨p, cap, e, hr⟩, -, hu, hm⟩ := h
  obtain rfl := row_0 hu hm ht
  exact ⟨p, cap, e, hr.to fun i hi => by
    obtain rfl : i = 0 := by simp at hi; omega
    rfl⟩
def Ah0 (V : World) (e : Ending) (w' : World) : Prop := ∃ p cap S p0 c0', e = .returned (.slice p 3 cap) ∧ RV w' p 3 S ∧ S 0 = .slice p0 0 c0' ∧ R0 w' (S 1) ∧ Below V.heap.size V w'
def Be0 (V : World) (e : Ending) (w' : World) : Prop := ∃ p cap S, e = .returned (.slice p 3 cap) ∧ RV w' p 3 S ∧ R0 w' (S 0) ∧ Below V.heap.size V w'
theorem ah0_of {V : World} {e : Ending} {w' : World} (h : AheP true V c0 e w') : Ah0 V e w' := by
  obtain ⟨v, rfl, ⟨p, cap, S, rfl, hr, hS⟩, hb⟩ := h
  have h0 := hS 0 (by decide)
  have h1 := hS 1 (by decide)
  obtain ⟨L, ⟨p0, cp0, e0, -⟩, -, -, hm⟩ := h0
  obtain rfl := row_nil hm nd0_0
  exact ⟨p, cap, S, p0, cp0, rfl, hr, e0, r0_of h1 nd0_1, hb⟩
theorem be0_of {V : World} {e : Ending} {w' : World} (h : AheP false V c0 e w') : Be0 V e w' := by
  obtain ⟨v, rfl, ⟨p, cap, S, rfl, hr, hS⟩, hb⟩ := h
  exact ⟨p, cap, S, rfl, hr, r0_of (hS 0 (by decide)) bh0_0, hb⟩
theorem rv_one (X : World) (T : TypeId) : RV (X.alloc (.cells #[.int .i64 0] T)) (some ⟨X.heap.size, 0, none⟩) 1 (lv [0]) := fun i hi => by
  obtain rfl : i = 0 := by omega
  exact ⟨_, 0, rfl, by simp, by rw [cell_of_row _ _ _ _ _ _ (heap_alloc_new X _)]; rfl⟩
theorem len0 : c0.length = 3 := rfl
def AwP (W : World) (e : Ending) (w' : World) : Prop := e = .returned (.bool true) ∧ Below W.heap.size W w'
set_option maxRecDepth 100000 in
set_option maxHeartbeats 1000000 in
theorem awake_c {W : World} (E : Hid (En W)) : Calls Tryd.prog 7 #[] W (AwP W) := by
  go_enter Tryd.func7, Tryd.ntmps7
  go_upto_region 2 with (fail)
  refine name_world ?_
  intro V1 hV1
  obtain ⟨b, hb⟩ : ∃ b, W.heap.size = b := ⟨_, rfl⟩
  have HV1 : Hid (Below W.heap.size W V1 ∧ CodeAt V1 (some ⟨b, 0, none⟩) c0) := Lib.hid (by rw [hV1, ← hb]; exact ⟨below1 W _, code0 W⟩)
  try rw [hb]
  clear hV1 hb
  have HE1 := Lib.hid (E.out.below HV1.out.1)
  have HS0 : Hid (Sm c0) := Lib.hid sm0
  have HA : Hid (Calls Tryd.prog 12 #[.slice (some ⟨b, 0, none⟩) 3 3] V1 (Ah0 V1)) := Lib.hid (by have h := lahead_c (cap := 3) (Lib.hid HV1.out.2) HE1 HS0 (by decide); rw [len0] at h; exact Calls.mono h fun e w h => ah0_of h)
  go_upto_region 3 with (go_at_call 12; (with_reducible refine HA.out.mono ?_); rintro e2 w2 ⟨pa, ca, S, p0, cp0, rfl, hr, h0, h1, hb⟩; have HV2 := Lib.hid (And.intro hr (And.intro h0 (And.intro h1 hb))); clear hr h0 h1 hb)
  have HC2 := Lib.hid (HV1.out.2.stay HV2.out.2.2.2)
  have HE2 := Lib.hid (HE1.out.below HV2.out.2.2.2)
  have HB : Hid (Calls Tryd.prog 14 #[.slice (some ⟨b, 0, none⟩) 3 3] w2 (Be0 w2)) := Lib.hid (by have h := lbehind_c (cap := 3) HC2 HE2 HS0 (by decide); rw [len0] at h; exact Calls.mono h fun e w h => be0_of h)
  go_upto_region 4 with (go_at_call 14; (with_reducible refine HB.out.mono ?_); rintro e3 w3 ⟨pb, cb, U, rfl, hr, h0, hb⟩; have HV3 := Lib.hid (And.intro hr (And.intro h0 hb)); clear hr h0 hb)
  have HC3 := Lib.hid (HC2.out.stay HV3.out.2.2)
  have HE3 := Lib.hid (HE2.out.below HV3.out.2.2)
  have HR : Hid (Calls Tryd.prog 9 #[.slice (some ⟨b, 0, none⟩) 3 3] w3 (RngsP w3 c0)) := Lib.hid (by have h := lranges_c (cap := 3) HC3 HE3 HS0 (by decide); rw [len0] at h; exact h)
  go_upto_region 5 with (go_at_call 9; (with_reducible refine HR.out.mono ?_); rintro e4 w4 ⟨v4, L, rfl, hi, hr, -, hb⟩; obtain rfl := rng0 hi; obtain ⟨pr, cr, rfl, hrc⟩ := hr.open; have HV4 := Lib.hid (And.intro hrc hb); clear hi hr hrc hb)
  have HC4 := Lib.hid (HC3.out.stay HV4.out.2)
  have HE4 := Lib.hid (HE3.out.below HV4.out.2)
  obtain ⟨gr, rfl, hgr, -, r0, r1, r2⟩ := HV4.out.1 0 (0, 0, 1) rfl
  obtain ⟨ga, oa, rfl, hga, ia0⟩ := ((HV2.out.1.stay HV3.out.2.2).stay HV4.out.2) 0 (by decide)
  obtain ⟨ga', oa', ep, hga', ia1⟩ := ((HV2.out.1.stay HV3.out.2.2).stay HV4.out.2) 1 (by decide)
  cases ep
  obtain ⟨gb, ob, rfl, hgb, ib0⟩ := (HV3.out.1.stay HV4.out.2) 0 (by decide)
  obtain ⟨p1, c1, e1, hr1⟩ := HV2.out.2.2.1
  obtain ⟨p2, c2, e2, hr2⟩ := HV3.out.2.1
  rw [HV2.out.2.1] at ia0
  rw [e1] at ia1
  rw [e2] at ib0
  simp only [List.length_cons, List.length_nil, Nat.zero_mul, Nat.zero_add, Nat.add_zero] at r0 r1 r2 ia0 ia1 ib0 ⊢
  have HR1 : Hid (RV w4 p1 1 (lv [0])) := Lib.hid ((hr1.stay HV3.out.2.2).stay HV4.out.2)
  have HR2 : Hid (RV w4 p2 1 (lv [0])) := Lib.hid (hr2.stay HV4.out.2)
  have HI : Hid (∀ X p cp q cq, RV X p 1 (lv [0]) → RV X q 1 (lv [0]) → Calls Tryd.prog 23 #[.slice p 1 cp, .slice q 1 cq] X fun e w' => e = .returned (.bool true) ∧ Below X.heap.size X w') := Lib.hid fun X p cp q cq h1 h2 => by
    have h := ints_any (cp := cp) (cq := cq) (l := [0]) (k := [0]) (Lib.hid h1) (Lib.hid h2) (by decide)
    rw [show ([0] : List Nat).length = 1 from rfl] at h
    exact Calls.mono h fun e w' ⟨b, hb, hl, hbe⟩ => ⟨by rw [hb, hl.2 rfl], hbe⟩
  have HM : Hid (∀ X, Below w4.heap.size w4 X → Calls Tryd.prog 16 #[.slice (some ⟨b, 0, none⟩) 3 3] X fun e w' => e = .returned (.int .i64 1) ∧ Below X.heap.size X w') := Lib.hid fun X hX => by
    have h := lmost_c (cap := 3) (Lib.hid (HC4.out.stay hX)) (Lib.hid (HE4.out.below hX)) HS0 (by decide)
    rw [len0] at h
    refine Calls.mono h fun e w' ⟨m, hm, hmo, hb⟩ => ?_
    obtain rfl := most0 hmo
    exact ⟨hm, hb⟩
  clear hr1 hr2 e1 e2
  go_wp2_with (first
    | (go_at_call 23; (with_reducible refine (HI.out _ p1 c1 _ 1 (HR1.out.stay (below1 _ _)) (rv_one _ _)).mono ?_); rintro e5 w5 ⟨rfl, hb5⟩; have hbb5 : Below w4.heap.size w4 w5 := (below1 w4 _).trans (hb5.mono (below1 w4 _).size); have HB5 := Lib.hid hbb5; have HR2' : Hid (∀ o, RV (w5.alloc o) p2 1 (lv [0])) := Lib.hid fun o => (HR2.out.stay hbb5).stay (below1 _ _); have ib0 := (hbb5.cell (p := ⟨gb, ob, none⟩) (by omega)).trans ib0; have r0 := (hbb5.cell (p := ⟨gr, 0, none⟩) (by omega)).trans r0; have r1 := (hbb5.cell (p := ⟨gr, 1, none⟩) (by omega)).trans r1; have r2 := (hbb5.cell (p := ⟨gr, 2, none⟩) (by omega)).trans r2; clear hb5 hbb5)
    | (go_at_call 23; (with_reducible refine (HI.out _ p2 c2 _ 1 (HR2'.out _) (rv_one _ _)).mono ?_); rintro e6 w6 ⟨rfl, hb6⟩; have hbb6 : Below w4.heap.size w4 w6 := (HB5.out.trans ((below1 w5 _).mono HB5.out.size)).trans (hb6.mono (Nat.le_trans HB5.out.size (below1 w5 _).size)); have HB6 := Lib.hid hbb6; have hb56 : Below w5.heap.size w5 w6 := (below1 w5 _).trans (hb6.mono (below1 w5 _).size); have hw5 := HB5.out.size; have r0 := (hb56.cell (p := ⟨gr, 0, none⟩) (Nat.lt_of_lt_of_le hgr hw5)).trans r0; have r1 := (hb56.cell (p := ⟨gr, 1, none⟩) (Nat.lt_of_lt_of_le hgr hw5)).trans r1; have r2 := (hb56.cell (p := ⟨gr, 2, none⟩) (Nat.lt_of_lt_of_le hgr hw5)).trans r2; clear hb6 hbb6 hb56)
    | (go_at_call 16; (with_reducible refine (HM.out _ HB6.out).mono ?_); rintro e7 w7 ⟨rfl, hb7⟩; have HB7 := Lib.hid hb7; clear hb7))
  go_ret
  have h4 : Below W.heap.size W w4 := ((HV1.out.1.trans (HV2.out.2.2.2.mono HV1.out.1.size)).trans (HV3.out.2.2.mono (Nat.le_trans HV1.out.1.size HV2.out.2.2.2.size))).trans (HV4.out.2.mono (Nat.le_trans HV1.out.1.size (Nat.le_trans HV2.out.2.2.2.size HV3.out.2.2.size)))
  exact ⟨rfl, (h4.trans (HB6.out.mono h4.size)).trans (HB7.out.mono (Nat.le_trans h4.size HB6.out.size))⟩
end Go.Proofs.YthodpkcjdbkdnaaDoor
namespace Go.Proofs.YthodpkcjdbkdnaaDoor
open Go Go.RowKit Gm

def TrueP (W : World) (e : Ending) (w' : World) : Prop := e = .returned (.bool true) ∧ Below W.heap.size W w'
theorem nd_pos' {c : List Ic} (hs : Sm c) (i : Nat) (r : Int) (h : Nd c r i) : 0 ≤ r := nd_pos hs h
theorem bh_pos' {c : List Ic} (hs : Sm c) (i : Nat) (r : Int) (h : Bh c r i) : 0 ≤ r := by
  obtain ⟨j, -, h⟩ := h
  exact nd_pos hs h
set_option maxRecDepth 100000 in
set_option maxHeartbeats 4000000 in
theorem tells_c {W : World} {p : Option Addr} {cap : Nat} {c : List Ic} (hc : Hid (CodeAt W p c)) (E : Hid (En W)) (hn : c.length ≤ 9223372036854775807) : Calls Tryd.prog 3 #[.slice p c.length cap] W (TrueP W) := by
  have HAW := Lib.hid (awake_c E)
  go_enter Tryd.func3, Tryd.ntmps3
  go_upto_region 4 with (go_at_call 7; (with_reducible refine HAW.out.mono ?_); rintro e1 w1 ⟨rfl, hb1⟩; have HB1 := Lib.hid hb1; have HSM := Lib.hid (small_c (cap := cap) (Lib.hid (hc.out.stay hb1)) hn); clear hb1)
  go_upto_region 5 with (go_at_call 8; (with_reducible refine HSM.out.mono ?_); rintro e2 w2 ⟨bb, rfl, hbb, hb2⟩; have HB2 := Lib.hid (And.intro hbb hb2); clear hbb hb2)
  have h2 : Below W.heap.size W w2 := HB1.out.trans (HB2.out.2.mono HB1.out.size)
  have H2 := Lib.hid h2
  have HC2 := Lib.hid (hc.out.stay h2)
  have HE2 := Lib.hid (E.out.below h2)
  clear h2
  cases bb with
  | false =>
    go_wp2
    go_ret
    exact ⟨rfl, H2.out⟩
  | true =>
    obtain ⟨hsm, h30⟩ := HB2.out.1 rfl
    have HS := Lib.hid hsm
    have HLR := Lib.hid (lranges_c (cap := cap) HC2 HE2 HS (by omega))
    clear hsm
    go_upto_region 8 with (go_at_call 9; (with_reducible refine HLR.out.mono ?_); rintro e3 w3 ⟨v3, L, rfl, hi3, hr3, hl3, hb3⟩; obtain ⟨p3, c3, rfl, hrc3⟩ := hr3.open; have HV3 := Lib.hid (And.intro hi3 (And.intro hrc3 hb3)); have HRR := Lib.hid (ranges_c (cap := cap) (Lib.hid (HC2.out.stay hb3)) HS (by omega)); clear hi3 hr3 hrc3 hb3)
    go_upto_region 9 with (go_at_call 10; (with_reducible refine HRR.out.mono ?_); rintro e4 w4 ⟨v4, M, rfl, hi4, hr4, hl4, hb4⟩; obtain rfl := HV3.out.1.one hi4; obtain ⟨p4, c4, rfl, hrc4⟩ := hr4.open; have HV4 := Lib.hid (And.intro hrc4 hb4); clear hi4 hr4 hrc4 hb4)
    have h34 := HV4.out.2
    go_wp2
    go_loopw [7] (fun a wr => ∃ i : Nat, a = .int .i64 i ∧ i ≤ L.length ∧ Hid (Below w4.heap.size w4 wr)) (fun a _ => L.length - (intOf a).toNat)
    case atStart => exact ⟨0, rfl, Nat.zero_le _, Lib.hid (Below.refl _ _)⟩
    case round =>
      obtain ⟨wo, rfl⟩ : ∃ wo : World, wo = wr := ⟨_, rfl⟩
      obtain ⟨i, rfl, hi, HR⟩ := hrel
      by_cases hlt : i < L.length
      · obtain ⟨x, hx⟩ : ∃ x, L[i]? = some x := ⟨_, List.getElem?_eq_getElem hlt⟩
        obtain ⟨g3, rfl, hg3, -, a0, a1, a2⟩ := HV3.out.2.1 i x hx
        obtain ⟨g4, rfl, hg4, -, b0, b1, b2⟩ := HV4.out.1 i x hx
        have hb34 := h34.trans (HR.out.mono h34.size)
        have a0 := (hb34.cell (p := ⟨g3, i * 3, none⟩) hg3).trans a0
        have a1 := (hb34.cell (p := ⟨g3, i * 3 + 1, none⟩) hg3).trans a1
        have a2 := (hb34.cell (p := ⟨g3, i * 3 + 2, none⟩) hg3).trans a2
        have b0 := (HR.out.cell (p := ⟨g4, i * 3, none⟩) hg4).trans b0
        have b1 := (HR.out.cell (p := ⟨g4, i * 3 + 1, none⟩) hg4).trans b1
        have b2 := (HR.out.cell (p := ⟨g4, i * 3 + 2, none⟩) hg4).trans b2
        clear hx hb34
        go_wp2
        go_quiet (fail)
        go_wp2
        go_roundw
        case rel => exact ⟨i + 1, by go_num, by omega, Lib.hid (below_like HR.out rfl rfl rfl rfl)⟩
        case measure => (simp [intOf]; try omega)
      · obtain rfl : i = L.length := by omega
        have h24 : Below w2.heap.size w2 wo := HV3.out.2.2.trans ((h34.trans (HR.out.mono h34.size)).mono HV3.out.2.2.size)
        have HC5 := Lib.hid (HC2.out.stay h24)
        have HE5 := Lib.hid (HE2.out.below h24)
        have H5 : Hid (Below W.heap.size W wo) := Lib.hid (H2.out.trans (h24.mono H2.out.size))
        have HLA := Lib.hid (lahead_c (cap := cap) HC5 HE5 HS (by omega))
        have hn5 : c.length ≤ 100000 := by omega
        have hn50 : c.length ≤ 50000 := by omega
        have hn6 : c.length ≤ 1000000 := by omega
        go_wp2_with (first
          | (go_at_call 12; (with_reducible refine HLA.out.mono ?_); rintro e5 w5 ⟨v5, rfl, hr5, hb5⟩; have HV5 := Lib.hid (And.intro hr5 hb5); have HRA := Lib.hid (ahead_c (cap := cap) (Lib.hid (HC5.out.stay hb5)) hn5); clear hr5 hb5)
          | (go_at_call 13; (with_reducible refine HRA.out.mono ?_); rintro e6 w6 ⟨v6, rfl, ha6, hb6⟩; have HROW := Lib.hid (rows_c (T := fun i r => Nd c r i) (Lib.hid (HV5.out.1.stay hb6 fun i u h => NRI.stay h hb6)) (Lib.hid (ha6 w6 (Kp.refl _ _))) (Lib.hid (nd_pos' HS.out)) hn6); have HB6 := Lib.hid (HV5.out.2.trans (hb6.mono HV5.out.2.size)); clear ha6 hb6)
          | (go_at_call 11; (with_reducible refine HROW.out.mono ?_); rintro e7 w7 ⟨rfl, hb7⟩; have hw7 := HB6.out.trans (hb7.mono HB6.out.size); have HB7 := Lib.hid hw7; have HLB := Lib.hid (lbehind_c (cap := cap) (Lib.hid (HC5.out.stay hw7)) (Lib.hid (HE5.out.below hw7)) HS hn50); clear HROW hb7 hw7)
          | (go_at_call 14; (with_reducible refine HLB.out.mono ?_); rintro e8 w8 ⟨v8, rfl, hr8, hb8⟩; have hw8 := HB7.out.trans (hb8.mono HB7.out.size); have HB8 := Lib.hid hw8; have HV8 := Lib.hid hr8; have HRB := Lib.hid (behind_c (cap := cap) (Lib.hid (HC5.out.stay hw8)) hn5); clear hr8 hb8 hw8)
          | (go_at_call 15; (with_reducible refine HRB.out.mono ?_); rintro e9 w9 ⟨v9, rfl, ha9, hb9⟩; have HROW := Lib.hid (rows_c (T := fun i r => Bh c r i) (Lib.hid (HV8.out.stay hb9 fun i u h => NRI.stay h hb9)) (Lib.hid (ha9 w9 (Kp.refl _ _))) (Lib.hid (bh_pos' HS.out)) hn6); have HB6 := Lib.hid (HB8.out.trans (hb9.mono HB8.out.size)); clear ha9 hb9)
          | (go_at_call 16; (with_reducible refine (lmost_c (cap := cap) (Lib.hid (HC5.out.stay HB7.out)) (Lib.hid (HE5.out.below HB7.out)) HS hn50).mono ?_); rintro e10 w10 ⟨m, rfl, hm, hb10⟩; have hw10 := HB7.out.trans (hb10.mono HB7.out.size); have HM := Lib.hid hm; have HB10 := Lib.hid hw10; have HRM := Lib.hid (most_c (cap := cap) (Lib.hid (HC5.out.stay hw10)) hn5); clear hm hb10 hw10)
          | (go_at_call 17; (with_reducible refine HRM.out.mono ?_); rintro e11 w11 ⟨m', rfl, hm, hb11⟩; obtain rfl := HM.out.one hm; have HB11 := Lib.hid (HB10.out.trans (hb11.mono HB10.out.size)); clear hm hb11))
        go_ret
        exact ⟨rfl, H5.out.trans (HB11.out.mono H5.out.size)⟩
end Go.Proofs.YthodpkcjdbkdnaaDoor
namespace Go.Proofs.YthodpkcjdbkdnaaDoor
open Go Go.ChangeShapes Go.WideShapes Go.ChangeAt Go.WideMaps Go.WideElems Go.RowKit Go.Sort

theorem own : ownKnob Tryd.prog.godebug = none := by kernel_rfl
theorem lt_of_var {w : World} {n : String} {g : Nat} {cs : Array Value} (hg : Tryd.prog.globalNamed n = some g) (h : w.var? Tryd.prog n = some cs) : g < w.heap.size := by
  unfold World.var? at h
  simp only [hg, Option.bind_some] at h
  cases hh : w.heap[g]? with
  | none => simp [hh] at h
  | some o => exact (Array.getElem?_eq_some_iff.1 hh).1

theorem gKinds : Tryd.prog.globalNamed "paling/ins.kinds" = some 0 := by kernel_rfl
theorem tKinds : (Tryd.prog.globals[0]?).map (·.type) = some 95 := by kernel_rfl
theorem cMade : Tryd.prog.cellsOf 94 = 7 := by kernel_rfl
theorem cPart : Tryd.prog.cellsOf 91 = 1 := by kernel_rfl
theorem cParts : Tryd.prog.cellsOf 92 = 4 := by kernel_rfl
theorem cBool : Tryd.prog.cellsOf 4 = 1 := by kernel_rfl
theorem kinds_eq : (Rows.laid_paling_ins_kinds : DataW Unit) = .agg ((List.range 14).map fun i => .agg [.lit (.string (nam i).data.toList), .agg ((List.range 4).map fun j => .lit (.int .i64 (prt i j))), .lit (.bool (kps i)), .lit (.bool (ens i))]) := by rfl
theorem list_four {α : Type} {l : List α} (h : l.length = 4) : ∃ a b c d, l = [a, b, c, d] := by
  match l, h with
  | [a, b, c, d], _ => exact ⟨a, b, c, d, rfl⟩
set_option maxRecDepth 100000 in
theorem kinds_of {W : World} {r : List (String × DataW Unit)} (h : laidMet Tryd.prog (("paling/ins.kinds", Rows.laid_paling_ins_kinds) :: r) W) : Kinds W := by
  obtain ⟨ps, ⟨g0, t0, cs0, f0, p0, q0, hg0, ht0, hv0, hd0, _, _⟩, _⟩ := h
  obtain rfl := Option.some.inj (gKinds.symm.trans hg0)
  obtain rfl := Option.some.inj (tKinds.symm.trans ht0)
  obtain ⟨xs, m, rfl, hx, hlen, hn, hel⟩ := DataW.trod_array Tryd.underlying95 hd0
  rw [kinds_eq] at hx
  simp only [Prod.mk.injEq, DataW.agg.injEq] at hx
  have key : ∀ n, n < 14 → cs0.toList[n * 7]? = some (.string (nam n)) ∧ (∀ j, j < 4 → cs0.toList[n * 7 + 1 + j]? = some (.int .i64 (prt n j))) ∧ cs0.toList[n * 7 + 5]? = some (.bool (kps n)) ∧ cs0.toList[n * 7 + 6]? = some (.bool (ens n)) := by
    intro n hn14
    have h0 := hel n hn14
    have hxs : xs[n]? = some xs[n] := List.getElem?_eq_getElem (by omega)
    rw [hxs] at h0
    have hx1 : (xs.map (·.1))[n]? = some xs[n].1 := by rw [List.getElem?_map, hxs]; rfl
    rw [← hx.1, List.getElem?_map, List.getElem?_range hn14] at hx1
    simp only [Option.map_some, Option.some.injEq] at hx1
    obtain ⟨ys, k, _, e0, _, hys, hfs⟩ := DataW.trod_struct Tryd.underlying94 h0
    obtain ⟨y0, y1, y2, y3, rfl⟩ := list_four hys
    have e1 := hfs 0 _ rfl
    have e2 := hfs 1 _ rfl
    have e3 := hfs 2 _ rfl
    have e4 := hfs 3 _ rfl
    simp only [List.getElem?_cons_zero, List.getElem?_cons_succ] at e1 e2 e3 e4
    obtain ⟨s, c1, d1, _⟩ := DataW.trod_string Tryd.underlying9 e1
    obtain ⟨zs, m2, _, d2, hzl, _, hze⟩ := DataW.trod_array Tryd.underlying92 e2
    obtain ⟨b3, c3, d3⟩ := DataW.trod_bool Tryd.underlying4 e3
    obtain ⟨b4, c4, d4⟩ := DataW.trod_bool Tryd.underlying4 e4
    rw [e0] at hx1
    simp only [List.map_cons, List.map_nil, d1, d2, d3, d4, DataW.agg.injEq, List.cons.injEq, DataW.lit.injEq, Lit.string.injEq, Lit.bool.injEq, and_true] at hx1
    obtain ⟨q1, q2, q3, q4⟩ := hx1
    rw [cMade] at c1 c3 c4 hze
    have get : ∀ i (v : Value) (o z : Nat), (List.take z (List.drop o (List.take 7 (List.drop (n * 7) cs0.toList))))[i]? = some v → cs0.toList[n * 7 + (o + i)]? = some v := by
      intro i v o z h
      simp only [List.getElem?_take, List.getElem?_drop] at h
      split at h
      · split at h
        · exact h
        · cases h
      · cases h
    refine ⟨?_, fun j hj => ?_, ?_, ?_⟩
    · have c5 := congrArg (·[0]?) c1
      have := get 0 _ _ _ c5
      rw [bytes_inj q1]
      simpa using this
    · have hzs : zs[j]? = some zs[j] := List.getElem?_eq_getElem (by omega)
      have h5 := hze j hj
      rw [hzs] at h5
      obtain ⟨v, c5, d5, _⟩ := DataW.trod_int Tryd.underlying91 h5
      have h6 : (zs.map (·.1))[j]? = some zs[j].1 := by rw [List.getElem?_map, hzs]; rfl
      rw [← q2, List.getElem?_map, List.getElem?_range hj, d5] at h6
      simp only [Option.map_some, Option.some.injEq, DataW.lit.injEq, Lit.int.injEq, true_and] at h6
      have c6 := congrArg (·[0]?) c5
      simp only [cPart, List.getElem?_take, List.getElem?_drop, Nat.mul_one] at c6
      rw [h6]
      simp [cParts, hj, show 1 + j < 7 by omega] at c6
      simpa [Nat.add_assoc] using c6
    · have c5 := congrArg (·[0]?) c3
      have := get 0 _ _ _ c5
      rw [q3]
      simpa using this
    · have c5 := congrArg (·[0]?) c4
      have := get 0 _ _ _ c5
      rw [q4]
      simpa using this
  refine ⟨lt_of_var gKinds hv0, fun n hn => ?_, fun n j hn hj => ?_, fun n hn => ?_, fun n hn => ?_⟩
  · rw [World.var?_cell gKinds hv0]
    simpa using (key n hn).1
  · rw [World.var?_cell gKinds hv0]
    simpa using (key n hn).2.1 j hj
  · rw [World.var?_cell gKinds hv0]
    simpa using (key n hn).2.2.1
  · rw [World.var?_cell gKinds hv0]
    simpa using (key n hn).2.2.2

def laidL : List (String × DataW Unit) := Rows.liveTellsRow.laid

theorem gTab : Tryd.prog.globalNamed "math/bits.deBruijn64tab" = some 1 := by kernel_rfl
theorem tTab : (Tryd.prog.globals[1]?).map (·.type) = some 113 := by kernel_rfl
theorem cTab : Tryd.prog.cellsOf 113 = 64 := by kernel_rfl
theorem cU8 : Tryd.prog.cellsOf 5 = 1 := by kernel_rfl
theorem of_laid {W : World} (h : laidMetH Tryd.prog laidL W) : En W := by
  rw [MakeChecks.laidMetH_plain _ _ _ (by kernel_rfl)] at h
  have ht : Lib.TabIs Tryd.prog W "math/bits.deBruijn64tab" .u8 (Lib.deBruijn64tab.map Int.ofNat) := Lib.tabIs_of_head gTab tTab Tryd.underlying113 Tryd.underlying5 cU8 cTab h
  refine ⟨kinds_of h.tail, fun j hj => ?_, lt_of_var gTab ht⟩
  rw [ht.cell gTab j (by simpa using hj)]
  simp [List.getD_eq_getElem?_getD, hj]

/-- The door's own heap meets the condition: three closed facts. -/
theorem door_met (os : Os) (args : Array Value) : laidMetH Tryd.prog laidL ((World.doorLaid Tryd.prog 400 os).forCall (fun _ _ => 0) ⟨#[], args, []⟩).memory :=
  laidMetH_of_parts3 (fuel := 8) (laidMet_of_run' 8 (by kernel_rfl) (by kernel_rfl)) (by kernel_rfl) (by kernel_rfl)
end Go.Proofs.YthodpkcjdbkdnaaDoor
namespace Go.Proofs.YthodpkcjdbkdnaaDoor
open Go Go.ChangeShapes Go.WideShapes Go.ChangeAt Go.RowKit Go.Deep

theorem seven {α : Type} {l : List α} (h : l.length = 7) : ∃ a b c d e f g, l = [a, b, c, d, e, f, g] := by
  match l, h with
  | [a, b, c, d, e, f, g], _ => exact ⟨a, b, c, d, e, f, g, rfl⟩
theorem cell_in {w : World} {a : Addr} {v : Value} (h : w.cell? a = some v) : a.block < w.heap.size := by
  unfold World.cell? at h
  split at h
  · rename_i e
    exact (Array.getElem?_eq_some_iff.1 e).1
  · cases h
theorem c_ins : Tryd.prog.cellsOf 39 = 7 := by kernel_rfl
theorem c_int : Tryd.prog.cellsOf 3 = 1 := by kernel_rfl
theorem c_i64 : Tryd.prog.cellsOf 2 = 1 := by kernel_rfl
set_option maxRecDepth 100000 in
theorem ins_of {H : Type} {enc : TypeId × Value → H} {W : World} {b0 : Nat} {sp : Nat → Bool} {held : Bool} {fuel : Nat} {cs : List Value} {y : DataW H × List MemPlace} (h : DataW.trod enc Tryd.prog W b0 sp held fuel 39 cs = some y) :
    ∃ x : Ic, cs = [.int .i64 x.k, .int .i64 x.o, .int .i64 x.d, .int .i64 x.a, .int .i64 x.b, .int .i64 x.n, .int .i64 x.t] ∧ Ok6 x := by
  obtain ⟨xs, n, _, rfl, hl, hlen, hf⟩ := DataW.trod_struct Tryd.underlying39 h
  rw [c_ins] at hl
  obtain ⟨c0, c1, c2, c3, c4, c5, c6, rfl⟩ := seven hl
  obtain ⟨y0, y1, y2, y3, y4, y5, y6, rfl⟩ := seven hlen
  have g0 := hf 0 _ rfl
  have g1 := hf 1 _ rfl
  have g2 := hf 2 _ rfl
  have g3 := hf 3 _ rfl
  have g4 := hf 4 _ rfl
  have g5 := hf 5 _ rfl
  have g6 := hf 6 _ rfl
  simp [c_int, c_i64] at g0 g1 g2 g3 g4 g5 g6
  obtain ⟨k, e0, _, w0⟩ := DataW.trod_int Tryd.underlying3 g0
  obtain ⟨o, e1, _, w1⟩ := DataW.trod_int Tryd.underlying3 g1
  obtain ⟨d, e2, _, w2⟩ := DataW.trod_int Tryd.underlying3 g2
  obtain ⟨a, e3, _, w3⟩ := DataW.trod_int Tryd.underlying3 g3
  obtain ⟨b, e4, _, w4⟩ := DataW.trod_int Tryd.underlying3 g4
  obtain ⟨n, e5, _, w5⟩ := DataW.trod_int Tryd.underlying2 g5
  obtain ⟨t, e6, _, w6⟩ := DataW.trod_int Tryd.underlying3 g6
  simp at e0 e1 e2 e3 e4 e5 e6
  subst e0 e1 e2 e3 e4 e5 e6
  exact ⟨⟨k, o, d, a, b, n, t⟩, rfl, bounds_i64 w0, bounds_i64 w1, bounds_i64 w2, bounds_i64 w3, bounds_i64 w4, bounds_i64 w5, bounds_i64 w6⟩
set_option maxRecDepth 100000 in
theorem open_ins {H : Type} {enc : TypeId × Value → H} {W : World} {b0 b1 : Nat} {sp : Nat → Bool} {held : Bool} {v : Value} {d : DataW H} {ps : List MemPlace} {r : Reach} (hv : Value.okWide Tryd.prog W r b1 39 v) (h : DataW.Trod enc Tryd.prog W b0 sp held 39 v d ps) :
    ∃ x : Ic, v = .agg #[.int .i64 x.k, .int .i64 x.o, .int .i64 x.d, .int .i64 x.a, .int .i64 x.b, .int .i64 x.n, .int .i64 x.t] ∧ Ok6 x := by
  obtain ⟨cs, rfl, hsz⟩ := okWide_struct Tryd.underlying39 hv
  obtain ⟨fuel, hf⟩ := h
  obtain ⟨x, hx, hok⟩ := ins_of hf
  refine ⟨x, ?_, hok⟩
  have e : cs.toList = [.int .i64 x.k, .int .i64 x.o, .int .i64 x.d, .int .i64 x.a, .int .i64 x.b, .int .i64 x.n, .int .i64 x.t] := by simpa [Value.cells] using hx
  rw [← Array.toArray_toList (xs := cs), e]
set_option maxRecDepth 100000 in
theorem open_code {H : Type} {enc : TypeId × Value → H} {W : World} {a0 : Option Addr} {n c : Nat} {d : DataW H} {ps : List MemPlace} (h : DataW.Trod enc Tryd.prog W 0 (fun _ => true) true 22 (.slice a0 n c) d ps) : ∃ l : List Ic, l.length = n ∧ CodeAt W a0 l := by
  obtain ⟨fuel, hf⟩ := h
  rcases open_slice Tryd.underlying22 hf with ⟨hcs, _⟩ | ⟨a, len, cap, m, k, D, Pl, hcs, _, hl, _, hm, hx, hcell⟩
  · simp [Value.cells] at hcs
    exact ⟨[], by simp [hcs], fun i x hx => by simp at hx⟩
  · simp [Value.cells] at hcs
    obtain ⟨rfl, rfl, rfl⟩ := hcs
    simp only [if_true] at hm
    obtain ⟨b, off, spot⟩ := a
    have key : ∀ i, i < n → ∃ x : Ic, Ok6 x ∧ spot = none ∧ b < W.heap.size ∧ At7 W b (off + i * 7) x := by
      intro i hi
      obtain ⟨cs', hc, ht⟩ := hcell i (by omega)
      rw [c_ins] at hc
      obtain ⟨_, hlen, hcc⟩ := World.cells?_some hc
      obtain ⟨x, rfl, hok⟩ := ins_of ht
      have e0 := hcc 0 (by omega)
      have e1 := hcc 1 (by omega)
      have e2 := hcc 2 (by omega)
      have e3 := hcc 3 (by omega)
      have e4 := hcc 4 (by omega)
      have e5 := hcc 5 (by omega)
      have e6 := hcc 6 (by omega)
      rw [Deep.add_add] at e0 e1 e2 e3 e4 e5 e6
      simp only [List.getElem?_cons_zero, List.getElem?_cons_succ] at e0 e1 e2 e3 e4 e5 e6
      have hspot : spot = none := by
        obtain ⟨cs0, hc0, ht0⟩ := hcell 0 (by omega)
        rw [c_ins] at hc0
        obtain ⟨_, hl0, hcc0⟩ := World.cells?_some hc0
        obtain ⟨x0, rfl, _⟩ := ins_of ht0
        have := hcc0 0 (by omega)
        simp only [List.getElem?_cons_zero] at this
        simpa [Addr.add] using World.cell?_spot this
      subst hspot
      rw [add_plain] at e0 e1 e2 e3 e4 e5 e6
      exact ⟨x, hok, rfl, cell_in e0, ⟨e0, e1, e2, e3, e4, e5, e6⟩⟩
    have hall : ∀ i, ∃ x : Ic, i < n → Ok6 x ∧ spot = none ∧ b < W.heap.size ∧ At7 W b (off + i * 7) x := fun i => by
      by_cases hi : i < n
      · obtain ⟨x, hx⟩ := key i hi
        exact ⟨x, fun _ => hx⟩
      · exact ⟨⟨0, 0, 0, 0, 0, 0, 0⟩, fun h => absurd h hi⟩
    let f : Nat → Ic := fun i => Classical.choose (hall i)
    refine ⟨(List.range n).map f, by simp, fun i x hx => ?_⟩
    have hi : i < n := by
      have := (List.getElem?_eq_some_iff.1 hx).1
      simpa using this
    have hfx : f i = x := by
      rw [List.getElem?_map, List.getElem?_range hi] at hx
      simpa using hx
    obtain ⟨hok, hsp, hb, hat⟩ := Classical.choose_spec (hall i) hi
    exact ⟨b, off, by rw [hsp], hb, hfx ▸ hat, hfx ▸ hok⟩
end Go.Proofs.YthodpkcjdbkdnaaDoor
namespace Go.Proofs.YthodpkcjdbkdnaaDoor
open Go Go.ChangeShapes Go.WideShapes Go.ChangeAt Go.RowKit Go.Deep

theorem code_len {H : Type} {enc : TypeId × Value → H} {W : World} {a0 : Option Addr} {n c : Nat} {d : DataW H} {ps : List MemPlace} (h : DataW.Trod enc Tryd.prog W 0 (fun _ => true) true 22 (.slice a0 n c) d ps) : n ≤ 9223372036854775807 := by
  obtain ⟨fuel, hf⟩ := h
  rcases open_slice Tryd.underlying22 hf with ⟨hcs, _⟩ | ⟨a, len, cap, m, k, D, Pl, hcs, _, hl, hm, _, _, _⟩
  · simp [Value.cells] at hcs
    omega
  · simp [Value.cells] at hcs
    obtain ⟨rfl, rfl, rfl⟩ := hcs
    unfold maxLen at hm
    omega
end Go.Proofs.YthodpkcjdbkdnaaDoor
