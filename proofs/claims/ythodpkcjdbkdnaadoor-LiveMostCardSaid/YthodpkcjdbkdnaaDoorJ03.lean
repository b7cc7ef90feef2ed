/- Lemmas for the laws of live (Lks Lup Lwm Lto Lwc Lbk Ltr Lwt Lg4 Lc2 Ljo Lrg Lrs Lah Lmo): each says its own conditions. -/
import Derived.Test.YthodpkcjdbkdnaaDoorJ02
import Derived.Test.YthodpkcjdbkdnaaDoorShelf
import Derived.Test.YthodpkcjdbkdnaaDoorShelfS
import Derived.Test.YthodpkcjdbkdnaaDoorShelf2
import Derived.RangeFuncNested
import Derived.RangeFuncBound
import Derived.RangeFuncCalls
import Derived.RangeFuncLeaves
import Derived.Shelf.Abstract
import Derived.Shelf.RegionOpen
import Derived.WalkKit
import Derived.OwnWalkIn
import Derived.TacticsInMore
import Derived.LoopNIn
import Derived.LoopIn
import Derived.OrdersIn
import Derived.OrdersHeld
import Derived.Deep.RegionHeld3
import Derived.Deep.AppendLies
import Derived.Maps.RangeWalk
import Derived.Laws.AppendOwn
import Derived.Laws.AppendOwnNone
set_option linter.unusedSimpArgs false
set_option linter.unusedVariables false
namespace Go.Proofs.YthodpkcjdbkdnaaDoor
open Go Go.RowKit Go.Sort Go.Shelf Gm

/-- The keys, rising. -/
def SK (f : KF) (L : List Int) : Prop := L.Pairwise (· < ·) ∧ ∀ k, k ∈ L ↔ (f k).isSome = true
theorem km_keys {W : World} {b n : Nat} {f : KF} {D : DataW Value} (h1 : W.ownsMap Tryd.prog 3 Rdv b n D) (h2 : ∀ (s : Int) (z : DataW Value), D.atKey (.int .i64 s) z = match f s with | some v => .held v | none => z) :
    (Go.intKeys D).Nodup ∧ ∀ k, k ∈ Go.intKeys D ↔ (f k).isSome = true := by
  obtain ⟨es0, hD0, hp0, hl0⟩ := World.ownsMap.entries h1 keyedI
  obtain ⟨es, clock, hb, F, hn, rfl⟩ := h1
  have hes : es0 = (es.toList.map (Go.WideElems.rg Tryd.prog 3 Rdv)).foldr DataW.insert [] := by cases hD0; rfl
  have hint : ∀ p ∈ es0, ∃ s, p.1 = .int .i64 s ∧ (f s).isSome = true := fun p hp => by
    rw [hes] at hp
    obtain ⟨x, hx, rfl⟩ := List.mem_map.1 (mem_sorted.1 hp)
    obtain ⟨s, -, h3, h4⟩ := KM.entry (W := W) (b := b) (n := n) F h2 hx
    exact ⟨s, h3, by rw [h4]; rfl⟩
  rw [← hes] at h2 ⊢
  refine ⟨?_, fun k => ?_⟩
  · unfold Go.intKeys
    simp only
    rw [List.nodup_iff_pairwise_ne, List.pairwise_map]
    refine hp0.imp_of_mem fun {p q} hp hq hne e => hne ?_
    obtain ⟨s, h3, -⟩ := hint p hp
    obtain ⟨t, h4, -⟩ := hint q hq
    rw [h3, h4] at e ⊢
    have e' : s = t := e
    rw [e']
  · unfold Go.intKeys
    simp only
    rw [List.mem_map]
    constructor
    · rintro ⟨p, hp, rfl⟩
      obtain ⟨s, h3, h4⟩ := hint p hp
      rw [h3]
      exact h4
    · intro hk
      cases hh : Maps.has (DataW.map es0) (.int .i64 k) with
      | false =>
        rw [at_none h2 fun z => Go.Maps.atKey_of_not_has hh z] at hk
        cases hk
      | true =>
        rw [Go.Maps.has_eq] at hh
        obtain ⟨p, hp, hk2⟩ := List.any_eq_true.1 hh
        have := WideAt.sameKey_eq hk2
        exact ⟨p, hp, by rw [this]; rfl⟩
theorem sk_of {f : KF} {ss ks : List Int} (hp : ss.Perm ks) (hn : ks.Nodup) (hm : ∀ k, k ∈ ks ↔ (f k).isSome = true) : SK f (ss.mergeSort fun x y => decide (x ≤ y)) := by
  have h1 := List.mergeSort_perm ss fun x y => decide (x ≤ y)
  have h2 := List.pairwise_mergeSort (le := fun x y : Int => decide (x ≤ y)) (fun a b c h1 h2 => by simp at h1 h2 ⊢; omega) (fun a b => by simp; omega) ss
  have hnd : (ss.mergeSort fun x y => decide (x ≤ y)).Nodup := (h1.nodup_iff).2 ((hp.nodup_iff).2 hn)
  refine ⟨?_, fun k => ?_⟩
  · rw [List.nodup_iff_pairwise_ne] at hnd
    exact (h2.and hnd).imp fun {a b} h => by have := h.1; have := h.2; simp at *; omega
  · rw [← hm, ← hp.mem_iff]
    exact h1.mem_iff
theorem sortsI (m : Nat) : Go.Proofs.AnyZI.SortsIn Tryd.prog Tryd.sortedI_ren Fence.wide m :=
  ⟨fun blk off cap ss W hH hblk hsz => callsIn_wide.2 (Tryd.slices_Sort_int blk off cap ss W hH hblk hsz), fun p cap W => callsIn_wide.2 (Tryd.slices_Sort_int_none p cap W)⟩
theorem keysU_c (mb : Option Nat) (W : World) : Calls Tryd.prog 73 #[.map mb] W fun e w' => e = .returned (.func (.func 83) #[] #[.pointer (some ⟨W.heap.size, 0, none⟩)]) ∧ w' = W.alloc (.cells #[.map mb] 63) :=
  (callsIn_wide (n := 5)).1 (Go.Proofs.AnyZI.keys_in Tryd.keysU Fence.wide 5 trivial rfl mb W)
theorem keysR_c (mb : Option Nat) (W : World) : Calls Tryd.prog 51 #[.map mb] W fun e w' => e = .returned (.func (.func 68) #[] #[.pointer (some ⟨W.heap.size, 0, none⟩)]) ∧ w' = W.alloc (.cells #[.map mb] 46) :=
  (callsIn_wide (n := 5)).1 (Go.Proofs.AnyZI.keys_in Tryd.keysR Fence.wide 5 trivial rfl mb W)
set_option maxRecDepth 100000 in
theorem sortedU_c {W : World} {b n : Nat} {f : KF} (h : KM 3 W b n f) (hn : n ≤ 1000000) : Calls Tryd.prog 50 #[.func (.func 83) #[] #[.pointer (some ⟨W.heap.size, 0, none⟩)]] (W.alloc (.cells #[.map (some b)] 63)) fun e w' => ∃ v L, e = .returned v ∧ SK f L ∧ L.length ≤ n ∧ Rw (W.heap.size + 1) w' v L ∧ Below (W.heap.size + 1) (W.alloc (.cells #[.map (some b)] 63)) w' := by
  obtain ⟨D, hown, h2⟩ := h
  have hbl := hown.lt
  obtain ⟨hk1, hk2⟩ := km_keys hown h2
  have hsz : Maps.size D ≤ n := by
    obtain ⟨es, clock, hb, F, hs, rfl⟩ := hown
    simp [Maps.size, length_sorted]
    exact hs
  have hseq : SeqGives Fence.wide 2 Tryd.prog 83 #[.pointer (some ⟨W.heap.size, 0, none⟩)] encZ (fun ss => ss.Perm (Go.intKeys D)) (Maps.size D) (W.alloc (.cells #[.map (some b)] 63)) :=
    AnyZI.keys_gives (ρ := Tryd.keysU_ren) { Tryd.keysU with } Fence.wide _ trivial rfl (by omega) W.heap.size b n D _ (by simp) (by simp) (by
      obtain ⟨es, clock, hb, Ft, hs, hD⟩ := hown
      exact ⟨es, clock, (Below.heap_alloc _ _ b hbl).trans hb, Ft, hs, hD⟩)
  have cS := AnyZI.sorted_in Tryd.sortedI Fence.wide 5 trivial trivial trivial trivial rfl (by omega) (sortsI _) (enters_of Tryd.func67 (by kernel_rfl) rfl) 83 #[.pointer (some ⟨W.heap.size, 0, none⟩)] trivial (enters_of Tryd.func83 (by kernel_rfl) rfl) _ _ (show Maps.size D ≤ maxLen by unfold maxLen; omega) (by omega) _ hseq
  refine (callsIn_wide.1 cS).mono ?_
  rintro e w' ⟨v, ss, rfl, hS, hrow, hnil, hb⟩
  have e1 : (W.alloc (.cells #[.map (some b)] 63)).heap.size = W.heap.size + 1 := by simp
  rw [e1] at hrow hb
  refine ⟨v, _, rfl, sk_of hS hk1 hk2, ?_, ?_, hb⟩
  · rw [List.length_mergeSort, hS.length_eq]
    have e2 : (Go.intKeys D).length = Maps.size D := by
      obtain ⟨es, clock, hb, F, hs, rfl⟩ := hown
      simp [Go.intKeys, Maps.size]
    omega
  · unfold Rw
    rw [List.length_mergeSort]
    exact hrow
end Go.Proofs.YthodpkcjdbkdnaaDoor
namespace Go.Proofs.YthodpkcjdbkdnaaDoor
open Go Go.RowKit Gm

theorem len_take {l : List Int} {m i : Nat} {r : Int} (h : l[i]? = some r) : (l.take (i + 1)).foldl putM m = putM ((l.take i).foldl putM m) r := by
  rw [List.take_add_one, h, List.foldl_append]
  rfl
set_option maxRecDepth 100000 in
set_option maxHeartbeats 4000000 in
theorem up_c {W : World} {b m : Nat} (h : Hid (ST W b m)) (E : Hid (En W)) (x : Ic) (hs : Sm1 x) : Calls Tryd.prog 36 #[.map (some b), .agg #[.int .i64 x.k, .int .i64 x.o, .int .i64 x.d, .int .i64 x.a, .int .i64 x.b, .int .i64 x.n, .int .i64 x.t]] W
    (SetPost W b (upM x m) fun n => ((rowM (upM x m)).length : Int) = (rowM m).length + n) := by
  have HUS : Hid (∀ w, Kinds w → Calls Tryd.prog 41 #[.agg #[.int .i64 x.k, .int .i64 x.o, .int .i64 x.d, .int .i64 x.a, .int .i64 x.b, .int .i64 x.n, .int .i64 x.t]] w (RowP w (usesM x))) := Lib.hid fun w T => uses_any x w T
  have HDF : Hid (∀ w, Kinds w → Calls Tryd.prog 43 #[.agg #[.int .i64 x.k, .int .i64 x.o, .int .i64 x.d, .int .i64 x.a, .int .i64 x.b, .int .i64 x.n, .int .i64 x.t]] w fun e w' => e = .returned (.int .i64 (defM x)) ∧ Below w.heap.size w w') := Lib.hid fun w T => def_any x w T
  have HSU : Hid (∀ r, r ∈ usesM x → r < 64) := Lib.hid fun r hr => (uses_sm hs hr).2
  have hds := def_sm hs
  have hul := uses_len x
  obtain ⟨m', hm'⟩ : ∃ k, upM x m = k := ⟨_, rfl⟩
  rw [hm']
  unfold upM at hm'
  obtain ⟨u, hu⟩ : ∃ u, usesM x = u := ⟨_, rfl⟩
  obtain ⟨dm, hdm⟩ : ∃ d, defM x = d := ⟨_, rfl⟩
  rw [hu] at HUS hul HSU hm'
  rw [hdm] at HDF hds hm'
  have HM' := Lib.hid hm'
  clear hu hdm hm'
  go_enter Tryd.func36, Tryd.ntmps36
  go_upto_region 1 with (fail)
  refine name_world ?_
  intro V1 hV1
  obtain ⟨q, hq⟩ : ∃ q, W.heap.size = q := ⟨_, rfl⟩
  have HI : Hid (Ib V1 q (.int .i64 x.k) (.int .i64 x.o) (.int .i64 x.d) (.int .i64 x.a) (.int .i64 x.b) (.int .i64 x.n) (.int .i64 x.t)) := Lib.hid (by rw [hV1]; exact Ib.new hq.symm _ _ _ _ _ _ _)
  have HB1 : Hid (Below W.heap.size W V1) := Lib.hid (by rw [hV1]; exact below1 _ _)
  have HS1 := Lib.hid (h.out.stay HB1.out)
  have HE1 := Lib.hid (E.out.below HB1.out)
  have HBQ : Hid (b < q) := Lib.hid (by rw [← hq]; exact h.out.bl)
  have HC1 : Hid (Ch (fun z => z = b) W V1) := Lib.hid (.of HB1.out)
  try rw [hq]
  clear hV1
  obtain ⟨bm, y0, y1, y2, y3, y4, y5, y6, -⟩ := HI.out.facts
  go_upto_region 2 with (first
    | (go_at_call 43; (with_reducible refine (HDF.out _ HE1.out.kinds).mono ?_); rintro e4 w4 ⟨rfl, hb4⟩; have HB4 := Lib.hid hb4; have HS4 := Lib.hid (HS1.out.stay hb4); clear hb4)
    | (go_at_call 54; (with_reducible refine (drop_c HS4 dm hds).mono ?_); rintro e5 w5 ⟨n5, rfl, hn5, hs5, hc5⟩; have HS5 := Lib.hid hs5; have HN5 := Lib.hid hn5; have HC5 := Lib.hid ((Ch.of HB4.out).trans hc5); clear hn5 hs5 hc5))
  have HE5 : Hid (En w5) := Lib.hid (HE1.out.ch HC5.out fun z hz e => HS1.out.not_gl HE1.out (e ▸ hz))
  have HI5 : Hid (Ib w5 q (.int .i64 x.k) (.int .i64 x.o) (.int .i64 x.d) (.int .i64 x.a) (.int .i64 x.b) (.int .i64 x.n) (.int .i64 x.t)) := Lib.hid ((HC5.out.block q bm (by have := HBQ.out; omega)).trans HI.out)
  have HQ := Lib.hid hq
  clear bm y0 y1 y2 y3 y4 y5 y6 hq
  obtain ⟨bm, y0, y1, y2, y3, y4, y5, y6, -⟩ := HI5.out.facts
  have hn5 : 0 ≤ n5 ∧ n5 ≤ 64 := by
    have h1 := rowM_len m
    have h2 := HN5.out
    have h3 : ((rowM (dropM m dm)).length : Int) ≤ (rowM m).length := by
      by_cases k : Bt m dm
      · have := len_drop h.out.lt hds k
        omega
      · rw [drop_same h.out.lt hds k]
        omega
    omega
  have hm0 := rowM_len (dropM m dm)
  go_upto_region 3 with (first
    | (go_at_call 41; (with_reducible refine (HUS.out _ HE5.out.kinds).mono ?_); rintro e6 w6 ⟨v6, rfl, hr6, hb6⟩; obtain ⟨q6, c6, rfl, hv6, -⟩ := GV.rv hr6.gv; have HV6 : Hid (RV w6 q6 u.length (ivl u)) := Lib.hid hv6; have HQ6 : Hid (∀ a, q6 = some a → w5.heap.size ≤ a.block) := Lib.hid (fun a e => by have := hr6.gv.lt a.block (by rw [e]; rfl); omega); have HB6 := Lib.hid hb6; clear hr6 hb6 hv6))
  have hw : wrap64 (-n5) = -n5 := by unfold wrap64; omega
  rw [hw]
  have HS6 := Lib.hid (HS5.out.stay HB6.out)
  have HC6 : Hid (Ch (fun z => z = b) W w6) := Lib.hid (HC1.out.trans (HC5.out.trans (.of HB6.out)))
  have HVb : Hid (∀ X, Ch (fun z => z = b) w6 X → RV X q6 u.length (ivl u)) := Lib.hid fun X hX => HV6.out.ch hX fun a e h => by
    have h1 := HQ6.out a e
    have h2 := HS5.out.bl
    omega
  clear hw bm y0 y1 y2 y3 y4 y5 y6
  have hdl : ((rowM (dropM m dm)).length : Int) = (rowM m).length + -n5 := by have := HN5.out; omega
  have HDL := Lib.hid hdl
  have hlm := rowM_len m
  clear hdl
  go_loopw [5, 16] (fun a5 a16 wr => ∃ (i : Nat) (d : Int), a16 = .int .i64 i ∧ a5 = .int .i64 d ∧ i ≤ u.length ∧ Hid (ST wr b ((u.take i).foldl putM (dropM m dm)) ∧ ((rowM ((u.take i).foldl putM (dropM m dm))).length : Int) = (rowM m).length + d ∧ Ch (fun z => z = b) w6 wr)) (fun _ a16 _ => u.length - (intOf a16).toNat)
  case atStart => exact ⟨0, _, rfl, rfl, Nat.zero_le _, Lib.hid ⟨HS6.out, HDL.out, Ch.refl _ _⟩⟩
  case round =>
    obtain ⟨wo, rfl⟩ : ∃ wo : World, wo = wr := ⟨_, rfl⟩
    obtain ⟨i, d, rfl, rfl, hi, HR⟩ := hrel
    have hd1 : -64 ≤ d ∧ d ≤ 64 := by
      have h1 := HR.out.2.1
      have h2 := rowM_len ((u.take i).foldl putM (dropM m dm))
      omega
    by_cases hlt : i < u.length
    · obtain ⟨r, hr⟩ : ∃ r, u[i]? = some r := ⟨_, List.getElem?_eq_getElem hlt⟩
      obtain ⟨g, o, rfl, -, ic⟩ := HVb.out wo HR.out.2.2 i hlt
      have ie : ivl u i = .int .i64 r := by simp [ivl, List.getD_eq_getElem?_getD, hr]
      rw [ie] at ic
      have hr64 := HSU.out r (List.mem_of_getElem? hr)
      have HST : Hid (ST wo b ((u.take i).foldl putM (dropM m dm))) := Lib.hid HR.out.1
      have HPU := Lib.hid (len_take (m := dropM m dm) hr)
      clear ie hr
      have HPC := Lib.hid (put_c HST r hr64)
      rw [← HPU.out] at HPC
      go_upto_region 6 with (first
        | (go_at_call 48; (with_reducible refine HPC.out.mono ?_); rintro e7 w7 ⟨n7, rfl, hn7, hs7, hc7⟩; have HS7 := Lib.hid hs7; have HN7 := Lib.hid hn7; have HC7 := Lib.hid hc7; have hn7b : d + n7 ≤ 64 ∧ -64 ≤ d + n7 := (by have h1 := HR.out.2.1; have h2 := rowM_len ((u.take (i + 1)).foldl putM (dropM m dm)); omega); clear hn7 hs7 hc7))
      go_wp2
      go_roundw
      case rel => exact ⟨i + 1, d + n7, by go_num, rfl, by omega, Lib.hid ⟨HS7.out, by have h1 := HR.out.2.1; have h2 := HN7.out; omega, HR.out.2.2.trans HC7.out⟩⟩
      case measure => (simp [intOf]; try omega)
    · obtain rfl : i = u.length := by omega
      go_wp2
      go_ret
      have h1 := HR.out.1
      have h2 := HR.out.2.1
      rw [List.take_length, HM'.out] at h1 h2
      exact ⟨d, rfl, h2, h1, HC6.out.trans HR.out.2.2⟩
end Go.Proofs.YthodpkcjdbkdnaaDoor
namespace Go.Proofs.YthodpkcjdbkdnaaDoor
open Go Go.RowKit Gm

abbrev WG : Type := Int → Option (Nat × Nat)
/-- Widened by a place. -/
def wid (g : WG) (r : Int) (i : Nat) : WG := fun t => if t = r then some (match g r with | none => (i, i) | some p => (min p.1 i, max p.2 i)) else g t
/-- The first and the last of the places that are told. -/
def Wd (T : Int → Nat → Prop) (g : WG) : Prop := ∀ r, match g r with | none => ∀ i, ¬ T r i | some p => T r p.1 ∧ T r p.2 ∧ ∀ i, T r i → p.1 ≤ i ∧ i ≤ p.2
def addT (T : Int → Nat → Prop) (r : Int) (i : Nat) : Int → Nat → Prop := fun t j => T t j ∨ (t = r ∧ j = i)
theorem Wd.add {T : Int → Nat → Prop} {g : WG} (h : Wd T g) (r : Int) (i : Nat) : Wd (addT T r i) (wid g r i) := by
  intro t
  unfold wid
  have ht := h t
  by_cases e : t = r
  · subst e
    rw [if_pos rfl]
    cases hg : g t with
    | none =>
      rw [hg] at ht
      refine ⟨.inr ⟨rfl, rfl⟩, .inr ⟨rfl, rfl⟩, fun j hj => ?_⟩
      rcases hj with hj | ⟨_, rfl⟩
      · exact absurd hj (ht j)
      · exact ⟨Nat.le_refl _, Nat.le_refl _⟩
    | some p =>
      rw [hg] at ht
      obtain ⟨h1, h2, h3⟩ := ht
      refine ⟨?_, ?_, fun j hj => ?_⟩
      · show addT T t i t (min p.1 i)
        by_cases k : p.1 ≤ i
        · rw [Nat.min_eq_left k]; exact .inl h1
        · rw [Nat.min_eq_right (by omega)]; exact .inr ⟨rfl, rfl⟩
      · show addT T t i t (max p.2 i)
        by_cases k : p.2 ≤ i
        · rw [Nat.max_eq_right k]; exact .inr ⟨rfl, rfl⟩
        · rw [Nat.max_eq_left (by omega)]; exact .inl h2
      · show min p.1 i ≤ j ∧ j ≤ max p.2 i
        rcases hj with hj | ⟨_, rfl⟩
        · have := h3 j hj
          omega
        · omega
  · rw [if_neg e]
    cases hg : g t with
    | none =>
      rw [hg] at ht
      exact fun j hj => hj.elim (ht j) fun k => e k.1
    | some p =>
      rw [hg] at ht
      exact ⟨.inl ht.1, .inl ht.2.1, fun j hj => hj.elim (ht.2.2 j) fun k => absurd k.1 e⟩
theorem Wd.to {T T' : Int → Nat → Prop} {g : WG} (h : Wd T g) (e : ∀ r i, T' r i ↔ T r i) : Wd T' g := by
  have : T' = T := by funext r i; exact propext (e r i)
  rw [this]; exact h
/-- .. as a map. -/
def WGF (g : WG) : KF := fun r => (g r).map fun p => .agg #[.int .i64 r, .int .i64 p.1, .int .i64 p.2]
theorem wgf_none {g : WG} {r : Int} (h : g r = none) : WGF g r = none := by unfold WGF; rw [h]; rfl
theorem wgf_some {g : WG} {r : Int} {p : Nat × Nat} (h : g r = some p) : WGF g r = some (.agg #[.int .i64 r, .int .i64 p.1, .int .i64 p.2]) := by unfold WGF; rw [h]; rfl
theorem wgf_put {g g' : WG} {r : Int} {a b : Nat} (h : g' r = some (a, b)) (ho : ∀ t, t ≠ r → g' t = g t) : (WGF g).upd r (.agg #[.int .i64 r, .int .i64 a, .int .i64 b]) = WGF g' := by
  funext t
  unfold KF.upd
  by_cases e : t = r
  · subst e; rw [if_pos rfl, wgf_some h]
  · rw [if_neg e]; unfold WGF; rw [ho t e]
open Go.ChangeMaps Go.MapKept Go.WideElems Go.Maps in
theorem KM.tight64 {W : World} {b n : Nat} {f : KF} (h : KM 3 W b n f) (hf : ∀ s, f s ≠ none → 0 ≤ s ∧ s < 64) : KM 3 W b 64 f := by
  obtain ⟨D, ⟨es, clock, hb, F, hn, rfl⟩, h2⟩ := h
  refine ⟨_, ⟨es, clock, hb, F, ?_, rfl⟩, h2⟩
  have key : ∀ x ∈ es.toList, ∃ s : Nat, x.key = .int .i64 s ∧ s < 64 := fun x hx => by
    obtain ⟨s, h3, -, h5⟩ := KM.entry (W := W) (b := b) (n := n) F h2 hx
    have := hf s (by rw [h5]; simp)
    exact ⟨s.toNat, by rw [h3, Int.toNat_of_nonneg this.1], by omega⟩
  have hp := ((stamped_iff es clock).1 F.stamped).2.2
  have ok : ∀ v : Value, ∃ n : Nat, (∀ s : Nat, v = .int .i64 s → n = s) := fun v => by
    cases v with
    | int q s => exact ⟨s.toNat, fun t e => by cases e; simp⟩
    | _ => exact ⟨0, fun t e => by cases e⟩
  let kn : MapEntry → Nat := fun x => Classical.choose (ok x.key)
  have hkn : ∀ x s, x.key = .int .i64 (s : Nat) → kn x = s := fun x s e => Classical.choose_spec (ok x.key) s e
  have h1 : (es.toList.map kn).Nodup := by
    rw [List.nodup_iff_pairwise_ne, List.pairwise_map]
    refine hp.imp_of_mem fun {x y} hx hy hxy e => ?_
    obtain ⟨s, h3, -⟩ := key x hx
    obtain ⟨t, h4, -⟩ := key y hy
    rw [hkn x s h3, hkn y t h4] at e
    exact hxy (by rw [h3, h4, e])
  have := nodup_len (n := 64) h1 fun m hm => by
    obtain ⟨x, hx, rfl⟩ := List.mem_map.1 hm
    obtain ⟨s, h3, h4⟩ := key x hx
    rw [hkn x s h3]; exact h4
  rw [List.length_map] at this
  simpa using this
/-- The ranges in memory. -/
structure WM (X : World) (b : Nat) (T : Int → Nat → Prop) : Prop where
  ex : ∃ g, KM 3 X b 64 (WGF g) ∧ Wd T g
  lt : ∀ r i, T r i → 0 ≤ r ∧ r < 64 ∧ i < 100000
section
variable {W X Y : World} {b : Nat} {T T' : Int → Nat → Prop}
theorem WM.bl (h : WM X b T) : b < X.heap.size := by
  obtain ⟨g, hk, -⟩ := h.ex
  exact hk.lt
theorem WM.same (h : WM X b T) (e : Y.heap[b]? = X.heap[b]?) : WM Y b T := ⟨by
  obtain ⟨g, hk, hw⟩ := h.ex
  exact ⟨g, hk.same e, hw⟩, h.lt⟩
theorem WM.ch {S : Nat → Prop} (h : WM X b T) (hc : Ch S X Y) (hn : ¬ S b) : WM Y b T := h.same (hc.block b h.bl hn)
theorem WM.stay (h : WM X b T) (hb : Below X.heap.size X Y) : WM Y b T := h.same (hb.block b h.bl)
theorem WM.to (h : WM X b T) (e : ∀ r i, T' r i ↔ T r i) : WM X b T' := by
  have : T' = T := by funext r i; exact propext (e r i)
  rw [this]; exact h
theorem WM.nocells (h : WM X b T) {q : Nat} {cs : Array Value} {t : TypeId} {fr : Nat × Nat} (hm : X.heap[q]? = some (.cells cs t fr)) : b ≠ q := by
  obtain ⟨g, hk, -⟩ := h.ex
  exact hk.nocells hm
theorem WM.made (W : World) : WM (W.alloc (.map #[] 0)) W.heap.size fun _ _ => False := ⟨⟨fun _ => none, by
  have e : WGF (fun _ => none) = fun _ => none := rfl
  rw [e]
  exact (KM.made 3 W).mono (Nat.zero_le _), fun r i h => h⟩, fun r i h => h.elim⟩
theorem WM.of_put {g : WG} {r : Int} {i : Nat} {u v : Nat} (hw : Wd T g) (hl : ∀ r i, T r i → 0 ≤ r ∧ r < 64 ∧ i < 100000) (hk : KM 3 X b 65 ((WGF g).upd r (.agg #[.int .i64 r, .int .i64 u, .int .i64 v]))) (e : wid g r i r = some (u, v)) (h0 : 0 ≤ r ∧ r < 64 ∧ i < 100000) : WM X b (addT T r i) := by
  rw [wgf_put e fun t ht => by unfold wid; rw [if_neg ht]] at hk
  have hw2 := hw.add r i
  have hlt : ∀ t j, addT T r i t j → 0 ≤ t ∧ t < 64 ∧ j < 100000 := fun t j h => h.elim (hl t j) fun ⟨e1, e2⟩ => by subst e1; subst e2; exact h0
  refine ⟨⟨_, hk.tight64 fun s hs => ?_, hw2⟩, hlt⟩
  have := hw2 s
  cases hg : wid g r i s with
  | none => exact absurd (wgf_none hg) hs
  | some p =>
    rw [hg] at this
    have h3 := hlt s p.1 this.1
    exact ⟨h3.1, h3.2.1⟩
end
theorem zeroR (W : World) : (zeroValue 30).run Tryd.prog W = .ok (.agg #[.int .i64 0, .int .i64 0, .int .i64 0]) W := by kernel_rfl
def WidP (W : World) (b : Nat) (T : Int → Nat → Prop) (e : Ending) (w' : World) : Prop := e = .returned (.tuple #[]) ∧ WM w' b T ∧ Ch (fun z => z = b) W w'
set_option maxRecDepth 100000 in
set_option maxHeartbeats 4000000 in
theorem widen_c {W : World} {b : Nat} {T : Int → Nat → Prop} (h : Hid (WM W b T)) {r : Int} {i : Nat} (h0 : 0 ≤ r ∧ r < 64 ∧ i < 100000) : Calls Tryd.prog 42 #[.map (some b), .int .i64 r, .int .i64 i] W (WidP W b (addT T r i)) := by
  obtain ⟨g, hk, hw⟩ := h.out.ex
  have HKW := Lib.hid (And.intro hk hw)
  have hkr : keyOf Tryd.prog 3 (.int .i64 r) = some (.int .i64 r) := keyI (by unfold In6; omega)
  have hl := hk.look_ok keyedI Tryd.underlying47 (zeroR W) hkr true
  have HK := Lib.hid hkr
  cases hg : g r with
  | none =>
    rw [wgf_none hg] at hl
    simp only [Option.getD_none, Option.isSome_none, if_true] at hl
    have HG := Lib.hid hg
    clear hk hw hkr hg
    go_enter Tryd.func42, Tryd.ntmps42
    have hmn : (min (i : Int) (i : Int)) = i := by omega
    have hmx : (max (i : Int) (i : Int)) = i := by omega
    go_wp2_with (at_mapUpdate; refine wpList_putK rfl (.tmp 20) (.tmp 21) (.tmp 31) rfl keyedI Tryd.underlying47 b 64 (WGF g) rfl (HKW.out.1.same ((below1 W _).block b HKW.out.1.lt)) (by decide) r (.agg #[.int .i64 r, .int .i64 i, .int .i64 i]) rfl (by first | rfl | (rw [hmn, hmx]; rfl)) HK.out ?_; intro w4 hk4 hg4; have HW4 := Lib.hid (And.intro hk4 hg4); clear hk4 hg4)
    go_end0
    refine ⟨rfl, WM.of_put HKW.out.2 h.out.lt HW4.out.1 (by unfold wid; rw [if_pos rfl, HG.out]) h0, ((Ch.refl (fun z => z = b) W).alloc _).grown HW4.out.2 fun z e => .inl (by cases e; rfl)⟩
  | some p =>
    rw [wgf_some hg] at hl
    simp only [Option.getD_some, Option.isSome_some, if_true] at hl
    have HG := Lib.hid hg
    clear hk hw hkr hg
    go_enter Tryd.func42, Tryd.ntmps42
    have hmn : (min (p.1 : Int) (i : Int)) = ((min p.1 i : Nat) : Int) := by omega
    have hmx : (max (p.2 : Int) (i : Int)) = ((max p.2 i : Nat) : Int) := by omega
    go_wp2_with (at_mapUpdate; refine wpList_putK rfl (.tmp 20) (.tmp 21) (.tmp 31) rfl keyedI Tryd.underlying47 b 64 (WGF g) rfl (HKW.out.1.same ((below1 W _).block b HKW.out.1.lt)) (by decide) r (.agg #[.int .i64 r, .int .i64 (min p.1 i : Nat), .int .i64 (max p.2 i : Nat)]) rfl (by first | rfl | (rw [← hmn, ← hmx]; rfl)) HK.out ?_; intro w4 hk4 hg4; have HW4 := Lib.hid (And.intro hk4 hg4); clear hk4 hg4)
    go_end0
    refine ⟨rfl, WM.of_put HKW.out.2 h.out.lt HW4.out.1 (by unfold wid; rw [if_pos rfl, HG.out]) h0, ((Ch.refl (fun z => z = b) W).alloc _).grown HW4.out.2 fun z e => .inl (by cases e; rfl)⟩
end Go.Proofs.YthodpkcjdbkdnaaDoor
namespace Go.Proofs.YthodpkcjdbkdnaaDoor
open Go Go.RowKit Gm

/-- A place reads the register, or writes it. -/
def Tc (c : List Ic) (r : Int) (i : Nat) : Prop := ∃ x, c[i]? = some x ∧ (r ∈ usesM x ∨ (defM x = r ∧ 0 ≤ r))
def TouchP (W : World) (b : Nat) (c : List Ic) (e : Ending) (w' : World) : Prop := e = .returned (.tuple #[]) ∧ WM w' b (Tc c) ∧ Ch (fun z => z = b) W w'
theorem WM.not_gl {X : World} {b : Nat} {T : Int → Nat → Prop} (h : WM X b T) (E : En X) : ¬ Gl b := by
  obtain ⟨g, hk, -⟩ := h.ex
  exact hk.not_gl E
set_option maxRecDepth 100000 in
set_option maxHeartbeats 4000000 in
theorem touch_c {W0 W : World} {p : Option Addr} {cap : Nat} {c : List Ic} {b : Nat} (hc : Hid (CodeAt W0 p c)) (hW : Hid (Below W0.heap.size W0 W)) (hWb : W0.heap.size ≤ b) (E : Hid (En W)) (hsm : Hid (Sm c)) (hn : c.length ≤ 50000) (h : Hid (WM W b fun _ _ => False)) : Calls Tryd.prog 24 #[.map (some b), .slice p c.length cap] W (TouchP W b c) := by
  have HCB : Hid (∀ X, Ch (fun z => z = b) W X → CodeAt X p c) := Lib.hid fun X hX => hc.out.stay (hW.out.trans (hX.below hW.out.size fun z hz e => by omega))
  go_enter Tryd.func24, Tryd.ntmps24
  go_upto_region 1 with (fail)
  go_loopw [11] (fun a wr => ∃ i : Nat, a = .int .i64 i ∧ i ≤ c.length ∧ Hid (WM wr b (fun r j => j < i ∧ Tc c r j) ∧ Ch (fun z => z = b) W wr)) (fun a _ => c.length - (intOf a).toNat)
  case atStart => exact ⟨0, rfl, Nat.zero_le _, Lib.hid ⟨h.out.to fun r j => ⟨fun h => by omega, fun h => h.elim⟩, Ch.refl _ _⟩⟩
  case round =>
    obtain ⟨wo, rfl⟩ : ∃ wo : World, wo = wr := ⟨_, rfl⟩
    obtain ⟨i, rfl, hi, HR⟩ := hrel
    by_cases hlt : i < c.length
    · obtain ⟨x, hx⟩ : ∃ x, c[i]? = some x := ⟨_, List.getElem?_eq_getElem hlt⟩
      have hsx := hsm.out i x hx
      obtain ⟨gc, oc, ep, hgc, hat7, hok⟩ := (HCB.out _ HR.out.2) i x hx
      have k0 := hat7.k
      have k1 := hat7.o
      have k2' := hat7.d
      have k3' := hat7.a
      have k4 := hat7.b
      have k5 := hat7.n
      have k6 := hat7.t
      subst ep
      have HE : Hid (En wo) := Lib.hid (E.out.ch HR.out.2 fun z hz e => h.out.not_gl E.out (e ▸ hz))
      have HUS : Hid (∀ w, Kinds w → Calls Tryd.prog 41 #[.agg #[.int .i64 x.k, .int .i64 x.o, .int .i64 x.d, .int .i64 x.a, .int .i64 x.b, .int .i64 x.n, .int .i64 x.t]] w (RowP w (usesM x))) := Lib.hid fun w T => uses_any x w T
      have HDF : Hid (∀ w, Kinds w → Calls Tryd.prog 43 #[.agg #[.int .i64 x.k, .int .i64 x.o, .int .i64 x.d, .int .i64 x.a, .int .i64 x.b, .int .i64 x.n, .int .i64 x.t]] w fun e w' => e = .returned (.int .i64 (defM x)) ∧ Below w.heap.size w w') := Lib.hid fun w T => def_any x w T
      have HSU : Hid (∀ r, r ∈ usesM x → 0 ≤ r ∧ r < 64) := Lib.hid fun r hr => uses_sm hsx hr
      have hds := def_sm hsx
      have hul := uses_len x
      have HX := Lib.hid hx
      obtain ⟨u, hu⟩ : ∃ u, usesM x = u := ⟨_, rfl⟩
      obtain ⟨dm, hdm⟩ : ∃ d, defM x = d := ⟨_, rfl⟩
      rw [hu] at HUS hul HSU
      rw [hdm] at HDF hds
      have HU := Lib.hid hu
      have HD := Lib.hid hdm
      clear hu hdm hx hsx hat7 hok
      go_upto_region 3 with (fail)
      refine name_world ?_
      intro V1 hV1
      obtain ⟨q, hq⟩ : ∃ q, wo.heap.size = q := ⟨_, rfl⟩
      have HI : Hid (Ib V1 q (.int .i64 x.k) (.int .i64 x.o) (.int .i64 x.d) (.int .i64 x.a) (.int .i64 x.b) (.int .i64 x.n) (.int .i64 x.t)) := Lib.hid (by rw [hV1]; exact Ib.new hq.symm _ _ _ _ _ _ _)
      have HB1 : Hid (Below wo.heap.size wo V1) := Lib.hid (by rw [hV1]; exact below1 _ _)
      have HE1 := Lib.hid (HE.out.below HB1.out)
      have HBQ : Hid (b < q) := Lib.hid (by rw [← hq]; exact HR.out.1.bl)
      have HW1 := Lib.hid (HR.out.1.stay HB1.out)
      try rw [hq]
      clear hV1 k0 k1 k2' k3' k4 k5 k6 hq
      obtain ⟨bm, y0, y1, y2, y3, y4, y5, y6, -⟩ := HI.out.facts
      go_upto_region 4 with (go_at_call 41; (with_reducible refine (HUS.out _ HE1.out.kinds).mono ?_); rintro e6 w6 ⟨v6, rfl, hr6, hb6⟩; obtain ⟨q6, c6, rfl, hv6, -⟩ := GV.rv hr6.gv; have HV6 : Hid (RV w6 q6 u.length (ivl u)) := Lib.hid hv6; have HQ6 : Hid (∀ a, q6 = some a → V1.heap.size ≤ a.block) := Lib.hid (fun a e => by have := hr6.gv.lt a.block (by rw [e]; rfl); omega); have HB6 := Lib.hid hb6; clear hr6 hb6 hv6)
      have HW6 := Lib.hid (HW1.out.stay HB6.out)
      have HI6 := Lib.hid ((HB6.out.block q bm).trans HI.out)
      have HVb : Hid (∀ X, Ch (fun z => z = b) w6 X → RV X q6 u.length (ivl u)) := Lib.hid fun X hX => HV6.out.ch hX fun a e h => by
        have h1 := HQ6.out a e
        have h2 := HW1.out.bl
        omega
      have HE6 : Hid (En w6) := Lib.hid (HE1.out.below HB6.out)
      clear y0 y1 y2 y3 y4 y5 y6
      go_loopw [19] (fun a wr => ∃ k : Nat, a = .int .i64 k ∧ k ≤ u.length ∧ Hid (WM wr b (fun r j => (j < i ∧ Tc c r j) ∨ (j = i ∧ r ∈ u.take k)) ∧ Ch (fun z => z = b) w6 wr)) (fun a _ => u.length - (intOf a).toNat)
      case atStart => exact ⟨0, rfl, Nat.zero_le _, Lib.hid ⟨HW6.out.to fun r j => ⟨fun h => h.elim id fun k => by simp at k, .inl⟩, Ch.refl _ _⟩⟩
      case round =>
        obtain ⟨wi, rfl⟩ : ∃ wo : World, wo = wr := ⟨_, rfl⟩
        obtain ⟨k, rfl, hk, HI2⟩ := hrel
        by_cases hkl : k < u.length
        · obtain ⟨r, hr⟩ : ∃ r, u[k]? = some r := ⟨_, List.getElem?_eq_getElem hkl⟩
          obtain ⟨g, o, rfl, -, ic⟩ := HVb.out wi HI2.out.2 k hkl
          have ie : ivl u k = .int .i64 r := by simp [ivl, List.getD_eq_getElem?_getD, hr]
          rw [ie] at ic
          have hr64 := HSU.out r (List.mem_of_getElem? hr)
          have HRU := Lib.hid hr
          have HWC := Lib.hid (widen_c (Lib.hid HI2.out.1) (r := r) (i := i) ⟨hr64.1, hr64.2, by omega⟩)
          clear ie hr
          go_wp2_with (go_at_call 42; (with_reducible refine HWC.out.mono ?_); rintro e7 w7 ⟨rfl, hw7, hc7⟩; have HW7 := Lib.hid (And.intro hw7 hc7); clear hw7 hc7)
          go_roundw
          case rel => exact ⟨k + 1, by go_num, by omega, Lib.hid ⟨HW7.out.1.to fun t j => by
            unfold addT
            rw [List.take_add_one, HRU.out]
            simp
            grind, HI2.out.2.trans HW7.out.2⟩⟩
          case measure => (simp [intOf]; try omega)
        · obtain rfl : k = u.length := by omega
          have hI7 : Hid (Ib wi q (.int .i64 x.k) (.int .i64 x.o) (.int .i64 x.d) (.int .i64 x.a) (.int .i64 x.b) (.int .i64 x.n) (.int .i64 x.t)) := Lib.hid ((HI2.out.2.block q (Nat.lt_of_lt_of_le bm HB6.out.size) (by have := HBQ.out; omega)).trans HI6.out)
          obtain ⟨-, y0, y1, y2, y3, y4, y5, y6, -⟩ := hI7.out.facts
          have HE7 : Hid (En wi) := Lib.hid (HE6.out.ch HI2.out.2 fun z hz e => h.out.not_gl E.out (e ▸ hz))
          have HCA : Hid (Ch (fun z => z = b) W wi) := Lib.hid (HR.out.2.trans ((Ch.of HB1.out).trans ((Ch.of HB6.out).trans HI2.out.2)))
          have hT : ∀ r j, (j < i + 1 ∧ Tc c r j) ↔ ((j < i ∧ Tc c r j) ∨ (j = i ∧ r ∈ u)) ∨ (r = dm ∧ 0 ≤ dm ∧ j = i) := fun r j => by
            have ht : Tc c r i ↔ r ∈ u ∨ (dm = r ∧ 0 ≤ r) := by
              unfold Tc
              rw [HX.out]
              constructor
              · rintro ⟨y, e, h⟩
                cases e
                rw [HU.out, HD.out] at h
                exact h
              · intro h
                exact ⟨x, rfl, by rw [HU.out, HD.out]; exact h⟩
            constructor
            · rintro ⟨h1, h2⟩
              by_cases e : j = i
              · subst e
                rcases ht.1 h2 with h3 | ⟨rfl, h4⟩
                · exact .inl (.inr ⟨rfl, h3⟩)
                · exact .inr ⟨rfl, h4, rfl⟩
              · exact .inl (.inl ⟨by omega, h2⟩)
            · rintro ((⟨h1, h2⟩ | ⟨rfl, h2⟩) | ⟨rfl, h2, rfl⟩)
              · exact ⟨by omega, h2⟩
              · exact ⟨by omega, ht.2 (.inl h2)⟩
              · exact ⟨by omega, ht.2 (.inr ⟨rfl, h2⟩)⟩
          have HT := Lib.hid hT
          clear hT
          go_upto_region 9 with (go_at_call 43; (with_reducible refine (HDF.out _ HE7.out.kinds).mono ?_); rintro e8 w8 ⟨rfl, hb8⟩; have HB8 := Lib.hid hb8; clear hb8)
          have HW8 := Lib.hid (HI2.out.1.stay HB8.out)
          have HC8 := Lib.hid (HCA.out.trans (Ch.of HB8.out))
          rw [List.take_length] at HW8
          clear y0 y1 y2 y3 y4 y5 y6
          by_cases hd0 : 0 ≤ dm
          · have HWC := Lib.hid (widen_c HW8 (r := dm) (i := i) ⟨hd0, hds, by omega⟩)
            go_wp2_with (go_at_call 42; (with_reducible refine HWC.out.mono ?_); rintro e7 w7 ⟨rfl, hw7, hc7⟩; have HW7 := Lib.hid (And.intro hw7 hc7); clear hw7 hc7)
            go_roundw
            case rel => exact ⟨i + 1, by go_num, by omega, Lib.hid ⟨HW7.out.1.to fun r j => (HT.out r j).trans ⟨fun h => h.imp id fun k => ⟨k.1, k.2.2⟩, fun h => h.imp id fun k => ⟨k.1, hd0, k.2⟩⟩, HC8.out.trans HW7.out.2⟩⟩
            case measure => (simp [intOf]; try omega)
          · go_wp2
            go_roundw
            case rel => exact ⟨i + 1, by go_num, by omega, Lib.hid ⟨HW8.out.to fun r j => (HT.out r j).trans ⟨fun h => h.elim id fun k => absurd k.2.1 hd0, .inl⟩, HC8.out⟩⟩
            case measure => (simp [intOf]; try omega)
    · obtain rfl : i = c.length := by omega
      go_wp2
      go_end0
      exact ⟨rfl, HR.out.1.to fun r j => ⟨fun h => ⟨by obtain ⟨x, hx, -⟩ := h; exact (List.getElem?_eq_some_iff.1 hx).1, h⟩, fun h => h.2⟩, HR.out.2⟩
end Go.Proofs.YthodpkcjdbkdnaaDoor
namespace Go.Proofs.YthodpkcjdbkdnaaDoor
open Go Go.RowKit Gm

/-- A place belongs to a register's range. -/
def Pl (c : List Ic) (r : Int) (i : Nat) : Prop := Tc c r i ∨ Nd c r i
/-- Places that tell all ranges. -/
structure Cov (c : List Ic) (T : Int → Nat → Prop) : Prop where
  of : ∀ r i, T r i → Pl c r i
  fst : ∀ r i, Pl c r i → ∃ j, j ≤ i ∧ T r j
  lst : ∀ r i, Pl c r i → ∃ j, i ≤ j ∧ T r j
/-- Behind the first stretches. -/
structure N1 (c : List Ic) (K : Nat) (fs : Nat → Nat) (A : Nat → Nat) (T : Int → Nat → Prop) (M s : Nat) : Prop where
  t0 : ∀ r i, Tc c r i → T r i
  of : ∀ r i, T r i → Pl c r i
  f1 : ∀ t, t < s → ∀ r, Bt (A t) r → ∃ u, u ≤ t ∧ T r (fs u)
  m1 : ∀ r, Bt M r → ∃ u, u < s ∧ T r (fs u)
/-- Of a stretch's own registers the first ones. -/
structure N1i (c : List Ic) (K : Nat) (fs : Nat → Nat) (A : Nat → Nat) (T : Int → Nat → Prop) (M s : Nat) (L : List Int) (k : Nat) : Prop where
  n : N1 c K fs A T M s
  fr : ∀ r, r ∈ L.take k → T r (fs s)
/-- Stretches that were gone over, in their order. -/
structure N2o (c : List Ic) (K : Nat) (fs es : Nat → Nat) (gt : Nat → List Nat) (A : Nat → Nat) (T : Int → Nat → Prop) (M : Nat) (pre : List Nat) : Prop where
  t0 : ∀ r i, Tc c r i → T r i
  of : ∀ r i, T r i → Pl c r i
  f1 : ∀ t, t < K → ∀ r, Bt (A t) r → ∃ u, u ≤ t ∧ T r (fs u)
  f2 : ∀ (i t : Nat), pre[i]? = some t → ∀ u, u ∈ gt t → ∀ r, Bt (A u) r → ∃ v, v ∈ pre.take (i + 1) ∧ T r (es v)
  m2 : ∀ r, Bt M r → ∃ v, v ∈ pre ∧ T r (es v)
/-- .. and of one more the first ways on. -/
structure N2 (c : List Ic) (K : Nat) (fs es : Nat → Nat) (gt : Nat → List Nat) (A : Nat → Nat) (T : Int → Nat → Prop) (M : Nat) (pre : List Nat) (x j : Nat) : Prop where
  t0 : ∀ r i, Tc c r i → T r i
  of : ∀ r i, T r i → Pl c r i
  f1 : ∀ t, t < K → ∀ r, Bt (A t) r → ∃ u, u ≤ t ∧ T r (fs u)
  f2 : ∀ (i t : Nat), pre[i]? = some t → ∀ u, u ∈ gt t → ∀ r, Bt (A u) r → ∃ v, v ∈ pre.take (i + 1) ∧ T r (es v)
  m2 : ∀ r, Bt M r → ∃ v, v ∈ pre ++ [x] ∧ T r (es v)
  g2 : ∀ u, u ∈ (gt x).take j → ∀ r, Bt (A u) r → ∃ v, v ∈ pre ++ [x] ∧ T r (es v)
structure N2i (c : List Ic) (K : Nat) (fs es : Nat → Nat) (gt : Nat → List Nat) (A : Nat → Nat) (T : Int → Nat → Prop) (M : Nat) (pre : List Nat) (x j : Nat) (L : List Int) (k : Nat) : Prop where
  n : N2 c K fs es gt A T M pre x j
  fr : ∀ r, r ∈ L.take k → T r (es x)
def dn (K : Nat) : List Nat := (List.range K).map fun j => K - 1 - j
theorem dn_get {K i t : Nat} : (dn K)[i]? = some t ↔ i < K ∧ t = K - 1 - i := by
  unfold dn
  rw [List.getElem?_map]
  by_cases h : i < K
  · rw [List.getElem?_range h]
    simp
    omega
  · rw [List.getElem?_eq_none (by simpa using h)]
    simp
    omega
theorem dn_len (K : Nat) : (dn K).length = K := by simp [dn]
section
variable {c : List Ic} {K : Nat} {fs es : Nat → Nat} {gt gf : Nat → List Nat} {A : Nat → Nat} {T : Int → Nat → Prop} {M s j k : Nat} {L : List Int} {r : Int}
theorem N1.zero (c : List Ic) (K : Nat) (fs A : Nat → Nat) : N1 c K fs A (Tc c) 0 0 := ⟨fun _ _ h => h, fun _ _ h => .inl h, fun t h => by omega, fun r h => absurd h (bt_zero r)⟩
theorem N1.start (h : N1 c K fs A T M s) (L : List Int) : N1i c K fs A T M s L 0 := ⟨h, fun r hr => by simp at hr⟩
theorem N1i.next (h : N1i c K fs A T M s L k) (hr : L[k]? = some r) (hp : Nd c r (fs s)) : N1i c K fs A (addT T r (fs s)) M s L (k + 1) := by
  refine ⟨⟨fun t i hi => .inl (h.n.t0 t i hi), fun t i hi => hi.elim (h.n.of t i) fun ⟨e1, e2⟩ => ?_, fun t ht r hb => ?_, fun r hb => ?_⟩, fun t ht => ?_⟩
  · subst e1; subst e2; exact .inr hp
  · obtain ⟨u, a, b⟩ := h.n.f1 t ht r hb
    exact ⟨u, a, .inl b⟩
  · obtain ⟨u, a, b⟩ := h.n.m1 r hb
    exact ⟨u, a, .inl b⟩
  · rw [List.take_add_one, hr, List.mem_append] at ht
    rcases ht with ht | ht
    · exact .inl (h.fr t ht)
    · have : t = r := by simpa using ht
      exact .inr ⟨this, rfl⟩
theorem N1i.done (h : N1i c K fs A T M s (rowM (dif (A s) M)) k) (hk : k = (rowM (dif (A s) M)).length) (ha : A s < 18446744073709551616) (hm : M < 18446744073709551616) : N1 c K fs A T (M ||| A s) (s + 1) := by
  subst hk
  have key : ∀ r, Bt (A s) r → ∃ u, u ≤ s ∧ T r (fs u) := fun r hb => by
    by_cases hM : Bt M r
    · obtain ⟨u, a, b⟩ := h.n.m1 r hM
      exact ⟨u, by omega, b⟩
    · exact ⟨s, Nat.le_refl _, h.fr r (by rw [List.take_length, rowM_mem (dif_lt ha), bt_dif ha hm]; exact ⟨hb, hM⟩)⟩
  refine ⟨h.n.t0, h.n.of, fun t ht r hb => ?_, fun r hb => ?_⟩
  · by_cases e : t = s
    · subst e; exact key r hb
    · exact h.n.f1 t (by omega) r hb
  · rcases bt_or.1 hb with hb | hb
    · obtain ⟨u, a, b⟩ := h.n.m1 r hb
      exact ⟨u, by omega, b⟩
    · obtain ⟨u, a, b⟩ := key r hb
      exact ⟨u, by omega, b⟩
theorem N1.turn (h : N1 c K fs A T M K) (es : Nat → Nat) (gt : Nat → List Nat) : N2o c K fs es gt A T 0 [] := ⟨h.t0, h.of, h.f1, fun i t h1 => by simp at h1, fun r h => absurd h (bt_zero r)⟩
theorem N2o.start {pre : List Nat} (h : N2o c K fs es gt A T M pre) (x : Nat) : N2 c K fs es gt A T M pre x 0 := ⟨h.t0, h.of, h.f1, h.f2, fun r hb => by
  obtain ⟨v, a, b⟩ := h.m2 r hb
  exact ⟨v, by simp [a], b⟩, fun u hu => by simp at hu⟩
theorem N2.fin {pre : List Nat} {x : Nat} (h : N2 c K fs es gt A T M pre x j) (hj : j = (gt x).length) : N2o c K fs es gt A T M (pre ++ [x]) := by
  subst hj
  refine ⟨h.t0, h.of, h.f1, fun i t hi u hu r hb => ?_, h.m2⟩
  have hil := (List.getElem?_eq_some_iff.1 hi).1
  rw [List.length_append] at hil
  simp only [List.length_cons, List.length_nil] at hil
  by_cases e : i < pre.length
  · rw [List.getElem?_append_left e] at hi
    rw [List.take_append_of_le_length (by omega)]
    exact h.f2 i t hi u hu r hb
  · have e2 : i = pre.length := by omega
    subst e2
    have ht : t = x := by simpa using hi.symm
    subst ht
    rw [List.take_of_length_le (by simp)]
    exact h.g2 u (by rw [List.take_length]; exact hu) r hb
theorem N2.start {pre : List Nat} {x : Nat} (h : N2 c K fs es gt A T M pre x j) (L : List Int) : N2i c K fs es gt A T M pre x j L 0 := ⟨h, fun r hr => by simp at hr⟩
theorem N2i.next {pre : List Nat} {x : Nat} (h : N2i c K fs es gt A T M pre x j L k) (hr : L[k]? = some r) (hp : Pl c r (es x)) : N2i c K fs es gt A (addT T r (es x)) M pre x j L (k + 1) := by
  refine ⟨⟨fun t i hi => .inl (h.n.t0 t i hi), fun t i hi => hi.elim (h.n.of t i) fun ⟨e1, e2⟩ => ?_, fun t ht r hb => ?_, fun i t hi u hu r hb => ?_, fun r hb => ?_, fun u hu r hb => ?_⟩, fun t ht => ?_⟩
  · subst e1; subst e2; exact hp
  · obtain ⟨u, a, b⟩ := h.n.f1 t ht r hb
    exact ⟨u, a, .inl b⟩
  · obtain ⟨v, a, d⟩ := h.n.f2 i t hi u hu r hb
    exact ⟨v, a, .inl d⟩
  · obtain ⟨v, a, d⟩ := h.n.m2 r hb
    exact ⟨v, a, .inl d⟩
  · obtain ⟨v, a, d⟩ := h.n.g2 u hu r hb
    exact ⟨v, a, .inl d⟩
  · rw [List.take_add_one, hr, List.mem_append] at ht
    rcases ht with ht | ht
    · exact .inl (h.fr t ht)
    · have : t = r := by simpa using ht
      exact .inr ⟨this, rfl⟩
theorem N2i.done {pre : List Nat} {x u : Nat} (h : N2i c K fs es gt A T M pre x j (rowM (dif (A u) M)) k) (hk : k = (rowM (dif (A u) M)).length) (hu : (gt x)[j]? = some u) (ha : A u < 18446744073709551616) (hm : M < 18446744073709551616) : N2 c K fs es gt A T (M ||| A u) pre x (j + 1) := by
  subst hk
  have key : ∀ r, Bt (A u) r → ∃ v, v ∈ pre ++ [x] ∧ T r (es v) := fun r hb => by
    by_cases hM : Bt M r
    · exact h.n.m2 r hM
    · exact ⟨x, by simp, h.fr r (by rw [List.take_length, rowM_mem (dif_lt ha), bt_dif ha hm]; exact ⟨hb, hM⟩)⟩
  refine ⟨h.n.t0, h.n.of, h.n.f1, h.n.f2, fun r hb => ?_, fun q hq r hb => ?_⟩
  · rcases bt_or.1 hb with hb | hb
    · exact h.n.m2 r hb
    · exact key r hb
  · rw [List.take_add_one, hu, List.mem_append] at hq
    rcases hq with hq | hq
    · exact h.n.g2 q hq r hb
    · have : q = u := by simpa using hq
      exact key r (this ▸ hb)
/-- What is needed behind a stretch belongs to its last place. -/
theorem pl_last (h : Cu c K fs es gt gf) (hA : ∀ t r, t < K → (Bt (A t) r ↔ Nd c r (fs t))) (hsm : Sm c) (hs : s < K) {u : Nat} (hu : u ∈ gt s) (hb : Bt (A u) r) : Pl c r (es s) := by
  have hbh : Bh c r (es s) := (behind_iff h hA hs).1 ⟨u, hu, hb⟩
  obtain ⟨x, hx⟩ : ∃ x, c[es s]? = some x := ⟨_, List.getElem?_eq_getElem (h.le hs).2⟩
  by_cases hd : defM x = r
  · exact .inl ⟨x, hx, .inr ⟨hd, by obtain ⟨j, -, hn⟩ := hbh; exact nd_pos hsm hn⟩⟩
  · exact .inr ((Nd.iff hx).2 (.inr ⟨hd, hbh⟩))
theorem fs_up {of : Nat → Nat} (h : Cuts c c.length K fs es of) : ∀ d t, t + d < K → fs t ≤ fs (t + d)
  | 0, t, _ => Nat.le_refl _
  | d + 1, t, hd => by
    have h1 := fs_up h d t (by omega)
    have h2 := h.nxt (t + d) (by omega)
    have h3 := h.le (t + d) (by omega)
    rw [show t + (d + 1) = t + d + 1 by omega]
    omega
theorem es_up {of : Nat → Nat} (h : Cuts c c.length K fs es of) : ∀ d t, t + d < K → es t ≤ es (t + d)
  | 0, t, _ => Nat.le_refl _
  | d + 1, t, hd => by
    have h1 := es_up h d t (by omega)
    have h2 := h.nxt (t + d) (by omega)
    have h3 := h.le (t + d + 1) (by omega)
    rw [show t + (d + 1) = t + d + 1 by omega]
    omega
theorem N2o.cov (h : N2o c K fs es gt A T M (dn K)) (hc : Cu c K fs es gt gf) (hsm : Sm c) (hA : ∀ t r, t < K → (Bt (A t) r ↔ Nd c r (fs t))) : Cov c T := by
  have hf2 : ∀ t, t < K → ∀ u, u ∈ gt t → ∀ r, Bt (A u) r → ∃ v, t ≤ v ∧ v < K ∧ T r (es v) := fun t ht u hu r hb => by
    obtain ⟨v, hv, d⟩ := h.f2 (K - 1 - t) t (dn_get.2 ⟨by omega, by omega⟩) u hu r hb
    obtain ⟨i, hi, e⟩ := List.mem_iff_getElem.1 hv
    have hi2 := hi
    rw [List.length_take, dn_len] at hi2
    have : (dn K)[i]? = some v := by
      rw [List.getElem_take] at e
      rw [← e]
      exact List.getElem?_eq_getElem _
    have := dn_get.1 this
    exact ⟨v, by omega, by omega, d⟩
  obtain ⟨of, hcut⟩ := hc.cuts
  refine ⟨h.of, fun r i hp => ?_, fun r i hp => ?_⟩
  · rcases hp with hp | hp
    · exact ⟨i, Nat.le_refl _, h.t0 r i hp⟩
    · obtain ⟨h1, h2, h3⟩ := hcut.ofl i hp.lt
      by_cases hf : Nd c r (fs (of i))
      · obtain ⟨u, a, b⟩ := h.f1 _ h1 r ((hA _ r h1).2 hf)
        have := fs_up hcut (of i - u) u (by omega)
        rw [show u + (of i - u) = of i by omega] at this
        exact ⟨fs u, by omega, b⟩
      · have step : ∀ d k, k = fs (of i) + d → k ≤ es (of i) → Nd c r k → ∃ q, q ≤ k ∧ Tc c r q := by
          intro d
          induction d with
          | zero => intro k hk _ hn; exact absurd (by rw [hk] at hn; exact hn) hf
          | succ d ih =>
            intro k hk hke hn
            obtain ⟨x, hx⟩ : ∃ x, c[k - 1]? = some x := ⟨_, List.getElem?_eq_getElem (by have := (hc.le h1).2; omega)⟩
            by_cases hd : defM x = r
            · exact ⟨k - 1, by omega, x, hx, .inr ⟨hd, nd_pos hsm hn⟩⟩
            · have hn1 : Nd c r (k - 1) := (Nd.iff hx).2 (.inr ⟨hd, (hc.bh_in h1 (show fs (of i) ≤ k - 1 by omega) (by omega)).2 (by rw [show k - 1 + 1 = k by omega]; exact hn)⟩)
              obtain ⟨q, a, b⟩ := ih (k - 1) (by omega) (by omega) hn1
              exact ⟨q, by omega, b⟩
        obtain ⟨q, a, b⟩ := step (i - fs (of i)) i (by omega) h3 hp
        exact ⟨q, a, h.t0 r q b⟩
  · rcases hp with hp | hp
    · exact ⟨i, Nat.le_refl _, h.t0 r i hp⟩
    · obtain ⟨h1, h2, h3⟩ := hcut.ofl i hp.lt
      by_cases hb : Bh c r (es (of i))
      · obtain ⟨u, hu, hbu⟩ := (behind_iff hc hA h1).2 hb
        obtain ⟨v, a, b, d⟩ := hf2 _ h1 u hu r hbu
        have := es_up hcut (v - of i) (of i) (by omega)
        rw [show of i + (v - of i) = v by omega] at this
        exact ⟨es v, by omega, d⟩
      · have step : ∀ d k, k + d = es (of i) → fs (of i) ≤ k → Nd c r k → ∃ q, k ≤ q ∧ Tc c r q := by
          intro d
          induction d with
          | zero =>
            intro k hk hfk hn
            obtain ⟨x, hx⟩ : ∃ x, c[k]? = some x := ⟨_, List.getElem?_eq_getElem hn.lt⟩
            rcases (Nd.iff hx).1 hn with hu | ⟨hd, hbk⟩
            · exact ⟨k, Nat.le_refl _, x, hx, .inl hu⟩
            · exact absurd (by rw [show k = es (of i) by omega] at hbk; exact hbk) hb
          | succ d ih =>
            intro k hk hfk hn
            obtain ⟨x, hx⟩ : ∃ x, c[k]? = some x := ⟨_, List.getElem?_eq_getElem hn.lt⟩
            rcases (Nd.iff hx).1 hn with hu | ⟨hd, hbk⟩
            · exact ⟨k, Nat.le_refl _, x, hx, .inl hu⟩
            · obtain ⟨q, a, b⟩ := ih (k + 1) (by omega) (by omega) ((hc.bh_in h1 hfk (by omega)).1 hbk)
              exact ⟨q, by omega, b⟩
        obtain ⟨q, a, b⟩ := step (es (of i) - i) i (by omega) h2 hp
        exact ⟨q, a, h.t0 r q b⟩
end
end Go.Proofs.YthodpkcjdbkdnaaDoor
namespace Go.Proofs.YthodpkcjdbkdnaaDoor
open Go Go.RowKit Gm

/-- What lay below n₀ lies, but for two blocks. -/
structure Kp2 (n₀ b sb : Nat) (W W' : World) : Prop where
  size : W.heap.size ≤ W'.heap.size
  same : ∀ k, k < n₀ → k ≠ b → k ≠ sb → W'.heap[k]? = W.heap[k]?
theorem Kp2.refl (n₀ b sb : Nat) (W : World) : Kp2 n₀ b sb W W := ⟨Nat.le_refl _, fun _ _ _ _ => rfl⟩
theorem Kp2.trans {n₀ b sb : Nat} {A B C : World} (h : Kp2 n₀ b sb A B) (k : Kp2 n₀ b sb B C) : Kp2 n₀ b sb A C := ⟨Nat.le_trans h.size k.size, fun i h1 h2 h3 => (k.same i h1 h2 h3).trans (h.same i h1 h2 h3)⟩
theorem kp2_b {n₀ b sb : Nat} {W : World} {l : Nat} {o' : Obj} (h : n₀ ≤ l) : Kp2 n₀ b sb W (W.putObj l o') := ⟨(grownBy_putObj' W l o').size, fun k h1 _ _ => by
  by_cases e : k < W.heap.size
  · exact World.grownBy.block (grownBy_putObj' W l o') k e (fun e => by cases e; omega)
  · have e2 : ¬ l = k := by omega
    simp only [World.putObj, Array.getElem?_setIfInBounds, e2, if_false]⟩
theorem Kp2.cell {n₀ b sb : Nat} {W W' : World} (h : Kp2 n₀ b sb W W') {g o : Nat} (hg : g < n₀) (h1 : g ≠ b) (h2 : g ≠ sb) : W'.cell? ⟨g, o, none⟩ = W.cell? ⟨g, o, none⟩ := World.cell?_of_block (a := ⟨g, o, none⟩) (h.same g hg h1 h2)
/-- A stretch that is told, with its number. -/
def stV (fs es : Nat → Nat) (a2 a3 : Nat → Value) (s : Nat) : Value := .agg #[.int .i64 (fs s : Int), .int .i64 (es s : Int), a2 s, a3 s]
abbrev Sn' (K : Nat) : Type := { s : Nat // s < K }
def encS {K : Nat} (fs es : Nat → Nat) (a2 a3 : Nat → Value) (x : Sn' K) : Array Value := #[.int .i64 (x.1 : Int), stV fs es a2 a3 x.1]
/-- The stretches' cells. -/
def Sc (W : World) (n₀ b sb : Nat) (p : Option Addr) (K : Nat) (fs es : Nat → Nat) (a2 a3 : Nat → Value) : Prop := ∀ s, s < K → ∃ g, p = some ⟨g, 0, none⟩ ∧ g < n₀ ∧ g ≠ b ∧ g ≠ sb ∧ W.cell? ⟨g, s * 4, none⟩ = some (.int .i64 (fs s : Int)) ∧ W.cell? ⟨g, s * 4 + 1, none⟩ = some (.int .i64 (es s : Int)) ∧ W.cell? ⟨g, s * 4 + 2, none⟩ = some (a2 s) ∧ W.cell? ⟨g, s * 4 + 3, none⟩ = some (a3 s)
theorem Sc.kp {W W' : World} {n₀ b sb : Nat} {p : Option Addr} {K : Nat} {fs es : Nat → Nat} {a2 a3 : Nat → Value} (h : Sc W n₀ b sb p K fs es a2 a3) (hk : Kp2 n₀ b sb W W') : Sc W' n₀ b sb p K fs es a2 a3 := fun s hs => by
  obtain ⟨g, e, h1, h2, h3, c0, c1, c2, c3⟩ := h s hs
  exact ⟨g, e, h1, h2, h3, (hk.cell h1 h2 h3).trans c0, (hk.cell h1 h2 h3).trans c1, (hk.cell h1 h2 h3).trans c2, (hk.cell h1 h2 h3).trans c3⟩
theorem dn_take {K k : Nat} (h : k < K) : (dn K).take (k + 1) = (dn K).take k ++ [K - 1 - k] := by
  rw [List.take_add_one, dn_get.2 ⟨h, rfl⟩]
  rfl
section
attribute [local go_sem] Oper.semAt_some
set_option maxRecDepth 100000 in
set_option maxHeartbeats 4000000 in
theorem back1_in (n : Nat) (hn : 1 ≤ n) (l Bs n₀ b sb K cap : Nat) (p : Option Addr) (fs es : Nat → Nat) (a2 a3 : Nat → Value) (hK : K ≤ 100000) (hBs0 : Bs < n₀) (hBs1 : Bs ≠ b) (hBs2 : Bs ≠ sb) (J Jx : List (Sn' K) → World → Prop)
    (hY : ∀ pre x W, J pre W → pre.length < K → YieldAt Fence.wide (n - 1) Tryd.prog l (encS fs es a2 a3 x) W fun e W' =>
      (e = .returned (.bool true) ∧ J (pre ++ [x]) W' ∧ Kp2 n₀ b sb W W') ∨ (e = .returned (.bool false) ∧ Jx (pre ++ [x]) W'))
    (W : World) (hBs : W.cell? ⟨Bs, 0, none⟩ = some (.slice p K cap)) (hc : Sc W n₀ b sb p K fs es a2 a3) (h0 : J [] W) :
    CallsIn Fence.wide n Tryd.prog 63 #[.func (.yield l) #[] #[], .pointer (some ⟨Bs, 0, none⟩)] W fun e W' => (∃ v, e = .returned v) ∧
      ((∃ ys, ys.map (·.1) = dn K ∧ J ys W') ∨ (∃ pre, True ∧ Jx pre W')) := by
  refine callsIn_of_wp Tryd.func63 rfl trivial ?_ rfl
  simp only [Tryd.ntmps63, List.size_toArray, List.length_cons, List.length_nil, Nat.reduceAdd, Nat.reduceSub, Array.replicate_succ, Array.replicate_zero, List.push_toArray, List.append_toArray, List.nil_append, List.cons_append]
  gi_wp2
  gi_loopw [3] (fun i wr => ∃ (k : Nat) (pre : List (Sn' K)), k ≤ K ∧ i = .int .i64 ((K : Int) - 1 - k) ∧ Hid (pre.map (·.1) = (dn K).take k ∧ J pre wr ∧ Kp2 n₀ b sb W wr)) (fun i _ => (intOf i + 1).toNat)
  case atStart => exact ⟨0, [], Nat.zero_le _, by first | go_num | (simp; try omega), Lib.hid ⟨rfl, h0, Kp2.refl _ _ _ _⟩⟩
  case round =>
    obtain ⟨k, pre, hk, rfl, HR⟩ := hrel
    have hbx := (HR.out.2.2.cell (o := 0) hBs0 hBs1 hBs2).trans hBs
    by_cases hlt : k < K
    · obtain ⟨s, hs⟩ : ∃ s, K - 1 - k = s := ⟨_, rfl⟩
      have hsK : s < K := by omega
      have es1 : (K : Int) - 1 - k = (s : Int) := by omega
      rw [es1]
      obtain ⟨g, ep, hg, hg1, hg2, c0, c1, c2, c3⟩ := (hc.kp HR.out.2.2) s hsK
      subst ep
      obtain ⟨fn, tmps, assign, body, hy, hR⟩ := hY pre ⟨s, hsK⟩ wr HR.out.2.1 (by
        have := congrArg List.length HR.out.1
        rw [List.length_map, List.length_take, dn_len] at this
        omega)
      unfold encS stV at hy
      dsimp only at hy
      gi_wp2
      refine hR.mono ?_
      rintro e W3 (⟨rfl, hJ3, hk3⟩ | ⟨rfl, hJx3⟩)
      · gi_wp2
        go_roundw
        case rel => exact ⟨k + 1, pre ++ [⟨s, hsK⟩], by omega, by first | (congr 1; omega) | go_num | (simp; try omega), Lib.hid ⟨by rw [List.map_append, HR.out.1, dn_take hlt, hs]; rfl, hJ3, HR.out.2.2.trans hk3⟩⟩
        case measure => (simp [intOf]; try omega)
      · gi_wp2
        refine bodyPost_ret (results_none rfl _ _ _) rfl ?_
        exact ⟨⟨_, rfl⟩, .inr ⟨_, trivial, hJx3⟩⟩
    · obtain rfl : k = K := by omega
      gi_wp2
      go_end0
      exact ⟨⟨_, rfl⟩, .inl ⟨_, by rw [HR.out.1, List.take_of_length_le (by rw [dn_len]; exact Nat.le_refl _)], HR.out.2.1⟩⟩
end
set_option maxHeartbeats 1000000 in
theorem back_c (p : Option Addr) (K cap : Nat) (w : World) : Calls Tryd.prog 46 #[.slice p K cap] w fun e w' => e = .returned (.func (.func 63) #[] #[.pointer (some ⟨w.heap.size, 0, none⟩)]) ∧ w' = w.alloc (.cells #[.slice p K cap] 57) := by
  go_enter Tryd.func46, Tryd.ntmps46
  go_wp2
  go_ret
  exact ⟨rfl, rfl⟩
theorem back_stops (n : Nat) (hn : 1 ≤ n) (Bs b sb K cap : Nat) (p : Option Addr) (fs es : Nat → Nat) (a2 a3 : Nat → Value) (hK : K ≤ 100000) (w : World) (hBs0 : Bs < w.heap.size) (hBs1 : Bs ≠ b) (hBs2 : Bs ≠ sb) (hc : w.cell? ⟨Bs, 0, none⟩ = some (.slice p K cap)) (hS : Sc w w.heap.size b sb p K fs es a2 a3) :
    SeqStopsK Fence.wide n Tryd.prog 63 #[.pointer (some ⟨Bs, 0, none⟩)] (encS (K := K) fs es a2 a3) (Kp2 w.heap.size b sb) (fun ys => ys.map (·.1) = dn K) (fun _ => True) K w := fun l J Jx W hW _ _ hY h0 =>
  back1_in n hn l Bs w.heap.size b sb K cap p fs es a2 a3 hK hBs0 hBs1 hBs2 J Jx hY W ((hW.cell (p := ⟨Bs, 0, none⟩) hBs0).trans hc) (hS.kp ⟨hW.size, fun k h _ _ => hW.block k h⟩) h0
end Go.Proofs.YthodpkcjdbkdnaaDoor
namespace Go.Proofs.YthodpkcjdbkdnaaDoor
open Go Go.RowKit

/-- No way out but the end. -/
def Nr (Q : Exit → Act → World → Prop) : Exit → Act → World → Prop := fun e a w => e = .normal ∧ Q .normal a w
theorem nr_out {Q : Exit → Act → World → Prop} : ¬ LetsOut (Nr Q) := fun h => by
  unfold LetsOut Nr at h
  obtain ⟨_, _, h, _⟩ := h
  cases h
def noDefer (ops : Array Oper) : Bool := ops.toList.all fun o => match o.op with | .defer _ => false | _ => true
theorem noDefer_spec {ops : Array Oper} (h : noDefer ops = true) {i : Nat} {o : Oper} (hi : ops[i]? = some o) (c : Call) : o.op ≠ .defer c := fun e => by
  unfold noDefer at h
  have hm : o ∈ ops.toList := by
    rw [← Array.getElem?_toList] at hi
    exact List.mem_of_getElem? hi
  have := List.all_eq_true.1 h o hm
  rw [e] at this
  cases this
theorem opIn_of {P : Program} {ops : Array Oper} {Q : Exit → Act → World → Prop} {l n i : Nat} {K K' : Act → World → Prop} {a : Act} {w : World} (hd : noDefer ops = true) (hK : ∀ a w, K a w → K' a w) (h : wpOp P ops (Nr Q) i K a w) : wpOpIn (Fence.wide.inRound l) n P ops Q i K' a w := by
  unfold wpOp at h
  unfold wpOpIn
  cases ho : ops[i]? with
  | none => rw [ho] at h; exact hK _ _ h
  | some o =>
    rw [ho] at h
    simp only at h ⊢
    by_cases hw : Region.wanted o (yielded ops a.tmps) = true
    · rw [if_pos hw] at h ⊢
      rcases h with h | ⟨-, h⟩
      · refine ⟨fun _ _ => trivial, ?_⟩
        rw [Oper.semAt_eq _ _ _ (noDefer_spec hd ho)]
        unfold Oper.wp at h
        generalize (execOp a.eval o).run P w = r at *
        cases r with
        | ok x w' =>
          cases x with
          | value v => exact hK _ _ h
          | skip => exact hK _ _ h
          | defer d => exact hK _ _ h
          | enter f args =>
            refine ⟨fun hh => absurd (show false = true from hh) (by decide), CallsIn.inRound l (callsIn_wide.2 (Calls.mono h fun e w'' he => ?_))⟩
            cases e with
            | returned v => exact hK _ _ he
            | panicked c => exact absurd he.1 (by simp)
            | outgrown => exact absurd he nr_out
          | row row args => exact ⟨fun hh => absurd (show false = true from hh) (by decide), fun c cs _ => by
              obtain ⟨v, w'', r, s⟩ := h c cs
              exact ⟨v, w'', hK _ _ r, stepsIn_wide.2 s⟩⟩
          | round _ _ _ _ _ => exact False.elim h
          | _ => exact False.elim h
        | halt x w' =>
          cases x with
          | panic v => exact absurd (show Exit.panic _ = Exit.normal from h.1) (by simp)
          | _ => exact False.elim h
      · exact absurd h nr_out
    · rw [if_neg hw] at h ⊢
      exact ⟨fun _ _ => trivial, hK _ _ h⟩
theorem anyIn_of {P : Program} {md : Region.Mode} {ops : Array Oper} {Q : Exit → Act → World → Prop} {l n : Nat} (hd : noDefer ops = true) : ∀ (fuel : Nat) (listed : Array Bool) (a : Act) (w : World), wpAny P md ops (Nr Q) fuel listed a w → wpAnyIn (Fence.wide.inRound l) n P md ops Q fuel listed a w
  | 0, _, _, _, h => ⟨h.1, h.2.2⟩
  | fuel + 1, _, _, _, h => ⟨fun e => (h.1 e).2, fun i hi => opIn_of hd (fun a w h => anyIn_of hd fuel _ a w h) (h.2 i hi)⟩
/-- A region within a round, held to S. -/
theorem region_round {P : Program} {id : Nat} {ops : Array Oper} {Q : Exit → Act → World → Prop} {a : Act} {w : World} {l n : Nat} (S : World → Prop) (hm : P.follows .mixedOrders = true) (hd : noDefer ops = true)
    (h : wpAnyH P .any ops (Nr Q) S ops.size (Array.replicate ops.size false) a w.drew) : (Code.region id ops true).wpIn (Fence.wide.inRound l) n P Q a w :=
  wpIn_region_any hm (anyIn_of hd _ _ _ _ (wpAny_of_held _ _ _ _ h))
/-- .. outside of rounds. -/
theorem region_held1 {P : Program} {id : Nat} {ops : Array Oper} {Q : Exit → Act → World → Prop} {a : Act} {w : World} (S : World → Prop) (hm : P.follows .mixedOrders = true)
    (h : wpAnyH P .any ops (Nr Q) S ops.size (Array.replicate ops.size false) a w.drew) : (Code.region id ops true).wp P Q a w :=
  Code.wp_mono (fun e a w h => by obtain ⟨rfl, h⟩ := h; exact h) (wp_region_held hm h)
theorem takeH {P : Program} {ops : Array Oper} {Q : Exit → Act → World → Prop} {md : Region.Mode} {S : World → Prop} {i : Nat} {oi : Oper} {v : Value} {fuel : Nat} {listed : Array Bool} {a : Act} {w : World} (d : Option Tmp) (hi : ops[i]? = some oi) (hd : oi.dst = d)
    (hs : Region.noSelect ops = true) (hf : Region.free md ops listed i = true) (hr : (Region.ready md ops listed).contains i = true) (hy : YieldsIf P ops S oi v a) (hS : S w)
    (h : wpAnyH P md ops (Nr Q) S fuel (listed.setIfInBounds i true) (a.put d v) w) : wpAnyH P md ops (Nr Q) S (fuel + 1) listed a w := by
  subst hd
  exact wpAnyH_take hi hs hf hr (fun _ _ _ h => absurd h.1 (by simp)) hy hS h
theorem wpOp_call {P : Program} {ops : Array Oper} {Q : Exit → Act → World → Prop} {K : Act → World → Prop} {a : Act} {w : World} {i : Nat} {o : Oper} (d : Option Tmp) (hi : ops[i]? = some o) (hd : o.dst = d) (hw : Region.wanted o (yielded ops a.tmps) = true) {f : Nat} {args : Array Value} (hr : (execOp a.eval o).run P w = .ok (.enter f args) w) {R : Ending → World → Prop} (hc : Calls P f args w R)
    (hK : ∀ e w', R e w' → ∃ v, e = .returned v ∧ K (a.put d v) w') : wpOp P ops Q i K a w := by
  subst hd
  unfold wpOp
  rw [hi]
  simp only
  rw [if_pos hw]
  refine .inl ?_
  unfold Oper.wp
  rw [hr]
  refine Calls.mono hc fun e w' h => ?_
  obtain ⟨v, rfl, h2⟩ := hK e w' h
  exact h2
end Go.Proofs.YthodpkcjdbkdnaaDoor
namespace Go.Proofs.YthodpkcjdbkdnaaDoor
open Go Go.RowKit Gm

theorem ivl_snoc {l : List Int} {z : Int} {i : Nat} (h : i < l.length + 1) : upd (ivl l) l.length (.int .i64 z) i = ivl (l ++ [z]) i := by
  unfold ivl
  by_cases e : i = l.length
  · rw [e, upd_at]
    simp
  · rw [upd_of e]
    show Value.int .i64 (l.getD i 0) = _
    rw [List.getD_eq_getElem?_getD, List.getD_eq_getElem?_getD, List.getElem?_append_left (by omega)]
/-- Rows that grow: their values, their numbers; the blocks of each bear its sign. -/
structure Wi (own : Nat → Nat) (h : Nat) (X : World) (bw m : Nat) (F : Nat → Value) (wl : Nat → List Int) : Prop where
  fv : FV 36 X bw m F
  w4 : own bw = 4
  rw : ∀ x, x < m → GV 3 h X (F x) (wl x).length (ivl (wl x))
  tg : ∀ x, x < m → Tg own (F x) (10 + x)
section
variable {own own' : Nat → Nat} {h bw m : Nat} {X Y : World} {F : Nat → Value} {wl : Nat → List Int}
theorem Wi.like (hw : Wi own h X bw m F wl) (e : Y.heap = X.heap) : Wi own h Y bw m F wl := ⟨hw.fv.of_heap (by rw [e]), hw.w4, fun x hx => (hw.rw x hx).of_heap fun _ _ => by rw [e], hw.tg⟩
theorem Wi.stay (hw : Wi own h X bw m F wl) (hb : Below X.heap.size X Y) : Wi own h Y bw m F wl := ⟨hw.fv.stay hb, hw.w4, fun x hx => (hw.rw x hx).stay hb, hw.tg⟩
/-- A row has one more. -/
theorem Wi.app {Z : World} {v' : Value} {x : Nat} {u : Int} (hw : Wi own h X bw m F wl) (hx : x < m) (hz : Apd X Z (F x) v') (hg : GV 3 h Z v' ((wl x).length + 1) (upd (ivl (wl x)) (wl x).length (.int .i64 u))) :
    Wi (tag own X.heap.size (10 + x)) h (Z.setCell ⟨bw, x, none⟩ v') bw m (upd F x v') (upd wl x (wl x ++ [u])) := by
  have he : ∀ b, b < X.heap.size → tag own X.heap.size (10 + x) b = own b := fun b hb => tag_lt hb
  have hbw : ¬ (F x).ownBlock = some bw := fun e => by have := hw.tg x hx _ e; have := hw.w4; omega
  have tv : Tg (tag own X.heap.size (10 + x)) v' (10 + x) := (hw.tg x hx).new (fun g e => ((hw.rw x hx).lt g e).2) hz.2
  have w4' : tag own X.heap.size (10 + x) bw = 4 := by rw [he _ hw.fv.lt]; exact hw.w4
  refine ⟨(hw.fv.ch hz.1 hbw).set x v', w4', fun z hz' => ?_, fun z hz' => ?_⟩
  · by_cases e : z = x
    · subst e
      rw [upd_at, upd_at]
      have hlen : (wl z ++ [u]).length = (wl z).length + 1 := by simp
      rw [hlen]
      refine (hg.setO (fun e => ?_) _ _).to fun i hi => ivl_snoc hi
      have := tv _ e
      omega
    · rw [upd_of e, upd_of e]
      refine ((hw.rw z hz').ch hz.1 fun g e2 e3 => ?_).setO (fun e2 => ?_) _ _
      · have h1 := hw.tg z hz' g e2
        have h2 := hw.tg x hx g e3
        omega
      · have := hw.tg z hz' _ e2
        have := hw.w4
        omega
  · by_cases e : z = x
    · subst e; rw [upd_at]; exact tv
    · rw [upd_of e]
      exact (hw.tg z hz').old fun g e2 => ((hw.rw z hz').lt g e2).2
end
/-- In memory; V: the world ahead of the loop. -/
structure Pi (W V X : World) (b n : Nat) (own : Nat → Nat) (F : Nat → Value) (wl : Nat → List Int) : Prop where
  bel : Below W.heap.size W X
  ch : Ch (fun z => z = b) V X
  wt : Wi own V.heap.size X b n F wl
  g : W.heap.size ≤ b ∧ b < V.heap.size
section
variable {W V X Y : World} {b n : Nat} {own : Nat → Nat} {F : Nat → Value} {wl wl' : Nat → List Int}
theorem Pi.like (h : Pi W V X b n own F wl) (e : Y.heap = X.heap) (e1 : Y.os = X.os) (e2 : Y.tape = X.tape) (e3 : Y.output = X.output) : Pi W V Y b n own F wl :=
  ⟨below_like h.bel e e1 e2 e3, h.ch.like e e1 e2 e3, h.wt.like e, h.g⟩
theorem Pi.stay (h : Pi W V X b n own F wl) (hb : Below X.heap.size X Y) : Pi W V Y b n own F wl :=
  ⟨h.bel.trans (hb.mono h.bel.size), h.ch.stepB hb, h.wt.stay hb, h.g⟩
theorem Pi.to (h : Pi W V X b n own F wl) (e : ∀ t, t < n → wl t = wl' t) : Pi W V X b n own F wl' :=
  ⟨h.bel, h.ch, ⟨h.wt.fv, h.wt.w4, fun x hx => e x hx ▸ h.wt.rw x hx, h.wt.tg⟩, h.g⟩
theorem Pi.app {Z : World} {v' : Value} {x : Nat} {u : Int} (h : Pi W V X b n own F wl) (hx : x < n) (hz : Apd X Z (F x) v') (hg : GV 3 V.heap.size Z v' ((wl x).length + 1) (upd (ivl (wl x)) (wl x).length (.int .i64 u))) :
    Pi W V (Z.setCell ⟨b, x, none⟩ v') b n (tag own X.heap.size (10 + x)) (upd F x v') (upd wl x (wl x ++ [u])) := by
  have hS : ∀ k, (F x).ownBlock = some k → V.heap.size ≤ k := fun k e => ((h.wt.rw x hx).lt k e).1
  have hg' := h.g
  exact ⟨(h.bel.trans (hz.1.below h.bel.size fun k hk e => by have := hS k e; omega)).setCell (p := ⟨b, x, none⟩) hg'.1 _, (h.ch.fresh hz.1 fun k hk e => by have := hS k e; omega).set (b := b) (.inl rfl) x v', h.wt.app hx hz hg, hg'⟩
end
/-- A rising row of the numbers of which something holds. -/
def NRI (W : World) (v : Value) (T : Int → Prop) : Prop := ∃ l : List Int, (∃ p cap, v = .slice p l.length cap ∧ RV W p l.length (ivl l)) ∧ l.length ≤ 1000000 ∧ l.Pairwise (fun x y => x < y) ∧ ∀ t, t ∈ l ↔ T t
theorem NRI.stay {W X : World} {v : Value} {T : Int → Prop} (h : NRI W v T) (hb : Below W.heap.size W X) : NRI X v T := by
  obtain ⟨l, ⟨p, cap, e, h1⟩, h2⟩ := h
  exact ⟨l, ⟨p, cap, e, h1.stay hb⟩, h2⟩
end Go.Proofs.YthodpkcjdbkdnaaDoor
namespace Go.Proofs.YthodpkcjdbkdnaaDoor
open Go Go.RowKit Gm

/-- A row that grows, of things of four cells. -/
def G4 (B : Nat) (W : World) (v : Value) (k : Nat) (F : Nat → Value) : Prop := W.ownsRow B 62 4 v k (rw_ (k * 4) F)
/-- Four more. -/
def up4 (F : Nat → Value) (k : Nat) (a b c d : Value) : Nat → Value := fun t => if t = k * 4 then a else if t = k * 4 + 1 then b else if t = k * 4 + 2 then c else if t = k * 4 + 3 then d else F t
theorem rw_four (k : Nat) (F : Nat → Value) (a b c d : Value) : rw_ (k * 4) F ++ [a, b, c, d] = rw_ ((k + 1) * 4) (up4 F k a b c d) := by
  have e1 : ∀ (m : Nat) (f : Nat → Value), rw_ (m + 1) f = rw_ m f ++ [f m] := fun m f => by simp [rw_, List.range_succ]
  have e2 : (k + 1) * 4 = k * 4 + 1 + 1 + 1 + 1 := by omega
  rw [e2, e1, e1, e1, e1]
  have e3 : rw_ (k * 4) (up4 F k a b c d) = rw_ (k * 4) F := rw_same fun i hi => by
    unfold up4
    rw [if_neg (by omega), if_neg (by omega), if_neg (by omega), if_neg (by omega)]
  rw [e3]
  simp [up4]
section
variable {B : Nat} {W X : World} {v : Value} {k i : Nat} {F G : Nat → Value}
theorem G4.nil (B : Nat) (W : World) (F : Nat → Value) : G4 B W (.slice none 0 0) 0 F := World.ownsRow_nil W B _ _
theorem G4.lt (h : G4 B W v k F) : ∀ g, v.ownBlock = some g → B ≤ g ∧ g < W.heap.size := World.ownsRow.lt h
theorem G4.open (h : G4 B W v k F) : ∃ p cap, v = .slice p k cap ∧ ((p = none ∧ k = 0) ∨ ∃ g, p = some ⟨g, 0, none⟩ ∧ v.ownBlock = some g ∧ g < W.heap.size ∧ B ≤ g ∧ k ≤ cap ∧ (∀ i, W.frozen? ⟨g, i, none⟩ = false) ∧ ∀ i, i < k * 4 → W.cell? ⟨g, i, none⟩ = some (F i)) := by
  rcases h.2 with ⟨rfl, rfl⟩ | ⟨g, cap, cur, rfl, hB, hg, hc, _, _, ht⟩
  · exact ⟨none, 0, rfl, .inl ⟨rfl, rfl⟩⟩
  · refine ⟨_, cap, rfl, .inr ⟨g, rfl, rfl, (Array.getElem?_eq_some_iff.1 hg).1, hB, hc, fun i => frozen_of_row W g i _ _ hg, fun i hi => ?_⟩⟩
    rw [cell_of_row W g i cur _ _ hg]
    have h1 := congrArg (·[i]?) ht
    simp only [List.getElem?_take] at h1
    rw [if_pos (by omega), rw_get _ hi] at h1
    simpa using h1
theorem G4.of_heap (h : G4 B W v k F) (e : ∀ g, v.ownBlock = some g → X.heap[g]? = W.heap[g]?) : G4 B X v k F := by
  refine ⟨h.1, ?_⟩
  rcases h.2 with h0 | ⟨g, cap, cur, rfl, hB, hg, r⟩
  · exact .inl h0
  · exact .inr ⟨g, cap, cur, rfl, hB, (e g rfl).trans hg, r⟩
theorem G4.stay (h : G4 B W v k F) (hb : Below W.heap.size W X) : G4 B X v k F := h.of_heap fun g e => hb.block g (h.lt g e).2
theorem G4.ch {S : Nat → Prop} (h : G4 B W v k F) (hc : Ch S W X) (hn : ∀ g, v.ownBlock = some g → ¬ S g) : G4 B X v k F := h.of_heap fun g e => hc.block g (h.lt g e).2 (hn g e)
theorem G4.setO (h : G4 B W v k F) {c : Nat} (hn : v.ownBlock ≠ some c) (i : Nat) (x : Value) : G4 B (W.setCell ⟨c, i, none⟩ x) v k F := h.of_heap fun g e => heap_setCell_other W ⟨c, i, none⟩ g x (fun e2 => hn (e.trans (congrArg some e2)))
theorem G4.to (h : G4 B W v k F) (e : ∀ i, i < k * 4 → F i = G i) : G4 B W v k G := by
  unfold G4 at h ⊢
  rw [← rw_same e]
  exact h
theorem G4.mono {B' : Nat} (h : G4 B W v k F) (hb : B' ≤ B) : G4 B' W v k F := by
  refine ⟨h.1, ?_⟩
  rcases h.2 with h0 | ⟨g, cap, cur, hv, hB, r⟩
  · exact .inl h0
  · exact .inr ⟨g, cap, cur, hv, Nat.le_trans hb hB, r⟩
theorem G4.more {a b c d : Value} (h : W.ownsRow B 62 4 v (k + 1) (rw_ (k * 4) F ++ [a, b, c, d])) : G4 B W v (k + 1) (up4 F k a b c d) := by
  unfold G4
  rw [← rw_four]
  exact h
/-- One cell is another. -/
theorem G4.set (h : G4 B W v k F) {g : Nat} (hg : v.ownBlock = some g) (hi : i < k * 4) (x : Value) : G4 B (W.setCell ⟨g, i, none⟩ x) v k (upd F i x) := by
  refine ⟨by simp [rw_], ?_⟩
  rcases h.2 with ⟨rfl, rfl⟩ | ⟨g', cap, cur, rfl, hB, hg', hc, hm, hs, ht⟩
  · omega
  · obtain rfl : g' = g := by cases hg; rfl
    refine .inr ⟨g', cap, _, rfl, hB, heap_setCell_same W g' i cur _ x hg', hc, hm, by simpa using hs, ?_⟩
    apply List.ext_getElem?
    intro j
    have h1 := congrArg (·[j]?) ht
    simp only [List.getElem?_take] at h1 ⊢
    by_cases hj : j < k * 4
    · rw [if_pos hj] at h1 ⊢
      rw [rw_get _ hj] at h1 ⊢
      rw [Array.getElem?_toList, Array.getElem?_setIfInBounds]
      rw [Array.getElem?_toList] at h1
      by_cases e : i = j
      · subst e
        have : i < cur.size := (Array.getElem?_eq_some_iff.1 h1).1
        rw [if_pos rfl, if_pos this, upd_at]
      · rw [if_neg e, h1, upd_of fun e2 => e e2.symm]
    · rw [if_neg hj, rw_none _ (by omega)]
end
end Go.Proofs.YthodpkcjdbkdnaaDoor
namespace Go.Proofs.YthodpkcjdbkdnaaDoor
open Go Go.RowKit Gm

def tol (c : List Ic) (es of : Nat → Nat) (s q a : Nat) : List Nat := if a < s then (outs c (es a)).map of else if a = s then ((outs c (es a)).take q).map of else []
/-- What the rows hold, s stretches done, and of the next one so many ways. -/
structure Jm (c : List Ic) (K : Nat) (es of : Nat → Nat) (s q : Nat) (wl : Nat → List Nat) : Prop where
  tos : ∀ a, a < K → wl (a * 4 + 3) = tol c es of s q a
  frs : ∀ t a, t < K → (a ∈ wl (t * 4 + 2) ↔ a < K ∧ t ∈ wl (a * 4 + 3))
  len : ∀ t, t < K → (wl (t * 4 + 2)).length ≤ 2 * s + q
section
variable {c : List Ic} {K : Nat} {es of : Nat → Nat} {s q : Nat} {wl : Nat → List Nat}
theorem Jm.zero (c : List Ic) (K : Nat) (es of : Nat → Nat) : Jm c K es of 0 0 (fun _ => []) := ⟨fun a _ => by
  unfold tol
  rw [if_neg (by omega)]
  split <;> simp, fun t a _ => by simp, fun t _ => by simp⟩
theorem Jm.next (h : Jm c K es of s (outs c (es s)).length wl) : Jm c K es of (s + 1) 0 wl := by
  refine ⟨fun a ha => ?_, h.frs, fun t ht => by have := h.len t ht; have := outs_len c (es s); omega⟩
  rw [h.tos a ha]
  unfold tol
  by_cases h1 : a < s
  · rw [if_pos h1, if_pos (by omega)]
  · by_cases h2 : a = s
    · subst h2
      rw [if_neg h1, if_pos rfl, if_pos (by omega), List.take_length]
    · rw [if_neg h1, if_neg h2, if_neg (by omega)]
      split <;> simp
/-- One way more: of which stretch, and from which one. -/
theorem Jm.step (h : Jm c K es of s q wl) (hs : s < K) {j u : Nat} (hj : (outs c (es s))[q]? = some j) (hu : of j = u) (huK : u < K) : Jm c K es of s (q + 1) (upd (upd wl (s * 4 + 3) (wl (s * 4 + 3) ++ [u])) (u * 4 + 2) (wl (u * 4 + 2) ++ [s])) := by
  have g3 : ∀ a, upd (upd wl (s * 4 + 3) (wl (s * 4 + 3) ++ [u])) (u * 4 + 2) (wl (u * 4 + 2) ++ [s]) (a * 4 + 3) = if a = s then wl (s * 4 + 3) ++ [u] else wl (a * 4 + 3) := fun a => by
    rw [upd_of (by omega)]
    by_cases e : a = s
    · subst e; rw [upd_at, if_pos rfl]
    · rw [upd_of (by omega), if_neg e]
  have g2 : ∀ t, upd (upd wl (s * 4 + 3) (wl (s * 4 + 3) ++ [u])) (u * 4 + 2) (wl (u * 4 + 2) ++ [s]) (t * 4 + 2) = if t = u then wl (u * 4 + 2) ++ [s] else wl (t * 4 + 2) := fun t => by
    by_cases e : t = u
    · subst e; rw [upd_at, if_pos rfl]
    · rw [upd_of (by omega), if_neg e, upd_of (by omega)]
  refine ⟨fun a ha => ?_, fun t a ht => ?_, fun t ht => ?_⟩
  · rw [g3]
    by_cases e : a = s
    · subst e
      rw [if_pos rfl, h.tos a ha]
      unfold tol
      rw [if_neg (Nat.lt_irrefl _), if_pos rfl, if_neg (Nat.lt_irrefl _), if_pos rfl, List.take_add_one, hj, List.map_append, ← hu]
      rfl
    · rw [if_neg e, h.tos a ha]
      unfold tol
      rw [if_neg e, if_neg e]
  · rw [g2, g3]
    by_cases e1 : t = u
    · subst e1
      rw [if_pos rfl, List.mem_append, h.frs t a ht]
      by_cases e2 : a = s
      · subst e2
        rw [if_pos rfl]
        simp [hs]
      · rw [if_neg e2]
        simp [e2]
    · rw [if_neg e1, h.frs t a ht]
      by_cases e2 : a = s
      · subst e2
        rw [if_pos rfl, List.mem_append]
        simp [e1]
      · rw [if_neg e2]
  · rw [g2]
    have h1 := h.len t ht
    split
    · rename_i e
      subst e
      rw [List.length_append]
      simp
      omega
    · omega
theorem Jm.all {fs : Nat → Nat} (h : Jm c K es of K 0 wl) (hc : Cuts c c.length K fs es of) : Cu c K fs es (fun s => wl (s * 4 + 3)) (fun t => wl (t * 4 + 2)) := by
  have ht : ∀ s, s < K → wl (s * 4 + 3) = (outs c (es s)).map of := fun s hs => by
    rw [h.tos s hs]
    exact if_pos hs
  refine ⟨⟨of, hc⟩, fun s hs t => ?_, fun t ht' s => h.frs t s ht', fun s hs => ?_, fun t ht' => ?_⟩
  · show t ∈ wl (s * 4 + 3) ↔ _
    rw [ht s hs]
    exact to_of hc hs t
  · show (wl (s * 4 + 3)).length ≤ 2
    rw [ht s hs, List.length_map]
    exact outs_len c _
  · have := h.len t ht'
    show (wl (t * 4 + 2)).length ≤ _
    omega
end
theorem lv_snoc2 {l : List Nat} {z i : Nat} (h : i < l.length + 1) : upd (lv l) l.length (.int .i64 (z : Int)) i = lv (l ++ [z]) i := by
  unfold lv
  by_cases e : i = l.length
  · rw [e, upd_at]
    simp
  · rw [upd_of e]
    show Value.int .i64 ((l.getD i 0 : Nat) : Int) = _
    rw [List.getD_eq_getElem?_getD, List.getD_eq_getElem?_getD, List.getElem?_append_left (by omega)]
/-- In memory: the row in block g, its rows of ways in blocks of their own. -/
structure S2 (Z X : World) (B g K cap : Nat) (own : Nat → Nat) (G : Nat → Value) (fs es : Nat → Nat) (wl : Nat → List Nat) : Prop where
  ch : Ch (fun z => z = g) Z X
  row : G4 B X (.slice (some ⟨g, 0, none⟩) K cap) K G
  gl : g < Z.heap.size
  w4 : own g = 4
  num : ∀ s, s < K → G (s * 4) = .int .i64 (fs s : Int) ∧ G (s * 4 + 1) = .int .i64 (es s : Int)
  rw : ∀ t, t < K * 4 → 2 ≤ t % 4 → GV 3 Z.heap.size X (G t) (wl t).length (lv (wl t))
  tg : ∀ t, t < K * 4 → 2 ≤ t % 4 → Tg own (G t) (10 + t)
section
variable {Z X Y : World} {B g K cap : Nat} {own : Nat → Nat} {G : Nat → Value} {fs es : Nat → Nat} {wl : Nat → List Nat}
theorem S2.stay (h : S2 Z X B g K cap own G fs es wl) (hb : Below X.heap.size X Y) : S2 Z Y B g K cap own G fs es wl :=
  ⟨h.ch.stepB hb, h.row.stay hb, h.gl, h.w4, h.num, fun t ht h2 => (h.rw t ht h2).stay hb, h.tg⟩
theorem S2.like (h : S2 Z X B g K cap own G fs es wl) (e : Y.heap = X.heap) (e1 : Y.os = X.os) (e2 : Y.tape = X.tape) (e3 : Y.output = X.output) : S2 Z Y B g K cap own G fs es wl := h.stay (below_like (Below.refl _ _) e e1 e2 e3)
theorem S2.far (h : S2 Z X B g K cap own G fs es wl) {t : Nat} (ht : t < K * 4) (h2 : 2 ≤ t % 4) : (G t).ownBlock ≠ some g := fun e => by have := h.tg t ht h2 _ e; have := h.w4; omega
theorem S2.app (h : S2 Z X B g K cap own G fs es wl) {W' : World} {v' : Value} {t u : Nat} (ht : t < K * 4) (h2 : 2 ≤ t % 4) (hz : Apd X W' (G t) v') (hg : GV 3 Z.heap.size W' v' ((wl t).length + 1) (upd (lv (wl t)) (wl t).length (.int .i64 (u : Int)))) :
    S2 Z (W'.setCell ⟨g, t, none⟩ v') B g K cap (tag own X.heap.size (10 + t)) (upd G t v') fs es (upd wl t (wl t ++ [u])) := by
  have hgX : g < X.heap.size := Nat.lt_of_lt_of_le h.gl h.ch.size
  have hbw : ¬ (G t).ownBlock = some g := h.far ht h2
  have tv : Tg (tag own X.heap.size (10 + t)) v' (10 + t) := (h.tg t ht h2).new (fun g e => ((h.rw t ht h2).lt g e).2) hz.2
  have w4' : tag own X.heap.size (10 + t) g = 4 := by rw [tag_lt hgX]; exact h.w4
  have hS : ∀ k, (G t).ownBlock = some k → Z.heap.size ≤ k := fun k e => ((h.rw t ht h2).lt k e).1
  refine ⟨(h.ch.fresh hz.1 fun k hk e => by have := hS k e; omega).set (.inl rfl) t v', (h.row.ch hz.1 fun g' e e2 => ?_).set rfl ht v', h.gl, w4', fun s hs => ?_, fun z hz' hz2 => ?_, fun z hz' hz2 => ?_⟩
  · cases e; exact hbw e2
  · rw [upd_of (by omega), upd_of (by omega)]
    exact h.num s hs
  · by_cases e : z = t
    · subst e
      rw [upd_at, upd_at]
      have hlen : (wl z ++ [u]).length = (wl z).length + 1 := by simp
      rw [hlen]
      refine (hg.setO (fun e => ?_) _ _).to fun i hi => lv_snoc2 hi
      have := tv _ e
      omega
    · rw [upd_of e, upd_of e]
      refine ((h.rw z hz' hz2).ch hz.1 fun g2 e2 e3 => ?_).setO (fun e2 => ?_) _ _
      · have h1 := h.tg z hz' hz2 g2 e2
        have h3 := h.tg t ht h2 g2 e3
        omega
      · have := h.tg z hz' hz2 _ e2
        have := h.w4
        omega
  · by_cases e : z = t
    · subst e; rw [upd_at]; exact tv
    · rw [upd_of e]
      exact (h.tg z hz' hz2).old fun g e2 => ((h.rw z hz' hz2).lt g e2).2
end
/-- Stretches in memory, to be read. -/
def SR (X : World) (lo : Nat) (v : Value) (K : Nat) (fs es : Nat → Nat) (gt gf : Nat → List Nat) : Prop := ∃ p cap, v = .slice p K cap ∧ ∀ s, s < K → ∃ g, p = some ⟨g, 0, none⟩ ∧ g < X.heap.size ∧ X.cell? ⟨g, s * 4, none⟩ = some (.int .i64 (fs s : Int)) ∧ X.cell? ⟨g, s * 4 + 1, none⟩ = some (.int .i64 (es s : Int)) ∧
  ∃ p2 k2 p3 k3, X.cell? ⟨g, s * 4 + 2, none⟩ = some (.slice p2 (gf s).length k2) ∧ X.cell? ⟨g, s * 4 + 3, none⟩ = some (.slice p3 (gt s).length k3) ∧ RV X p2 (gf s).length (lv (gf s)) ∧ RV X p3 (gt s).length (lv (gt s)) ∧ lo ≤ g ∧ (∀ a, p2 = some a → lo ≤ a.block) ∧ ∀ a, p3 = some a → lo ≤ a.block
theorem SR.stay {X Y : World} {lo : Nat} {v : Value} {K : Nat} {fs es : Nat → Nat} {gt gf : Nat → List Nat} (h : SR X lo v K fs es gt gf) (hb : Below X.heap.size X Y) : SR Y lo v K fs es gt gf := by
  obtain ⟨p, cap, e, h⟩ := h
  refine ⟨p, cap, e, fun s hs => ?_⟩
  obtain ⟨g, e1, hg, c0, c1, p2, k2, p3, k3, c2, c3, r2, r3, hlo⟩ := h s hs
  exact ⟨g, e1, Nat.lt_of_lt_of_le hg hb.size, (hb.cell (p := ⟨g, _, none⟩) hg).trans c0, (hb.cell (p := ⟨g, _, none⟩) hg).trans c1, p2, k2, p3, k3, (hb.cell (p := ⟨g, _, none⟩) hg).trans c2, (hb.cell (p := ⟨g, _, none⟩) hg).trans c3, r2.stay hb, r3.stay hb, hlo⟩
theorem S2.sr {Z X : World} {B g K cap : Nat} {own : Nat → Nat} {G : Nat → Value} {fs es : Nat → Nat} {wl : Nat → List Nat} (h : S2 Z X B g K cap own G fs es wl) {lo : Nat} (hg : lo ≤ g) (hZ : lo ≤ Z.heap.size) : SR X lo (.slice (some ⟨g, 0, none⟩) K cap) K fs es (fun s => wl (s * 4 + 3)) (fun t => wl (t * 4 + 2)) := by
  refine ⟨_, _, rfl, fun s hs => ?_⟩
  obtain ⟨_, _, e', hq⟩ := h.row.open
  cases e'
  obtain ⟨_, e', -, hgl, -, -, -, hc⟩ := hq.resolve_left (fun e => by omega)
  cases e'
  have c0 := hc (s * 4) (by omega)
  have c1 := hc (s * 4 + 1) (by omega)
  have c2 := hc (s * 4 + 2) (by omega)
  have c3 := hc (s * 4 + 3) (by omega)
  rw [(h.num s hs).1] at c0
  rw [(h.num s hs).2] at c1
  obtain ⟨p2, k2, e2, r2, l2⟩ := (h.rw (s * 4 + 2) (by omega) (by omega)).rv
  obtain ⟨p3, k3, e3, r3, l3⟩ := (h.rw (s * 4 + 3) (by omega) (by omega)).rv
  rw [e2] at c2
  rw [e3] at c3
  exact ⟨g, rfl, hgl, c0, c1, p2, k2, p3, k3, c2, c3, r2, r3, hg, fun a e => Nat.le_trans hZ (l2 a e).1, fun a e => Nat.le_trans hZ (l3 a e).1⟩
/-- Other blocks are written. -/
theorem SR.far {X Y : World} {lo : Nat} {v : Value} {K : Nat} {fs es : Nat → Nat} {gt gf : Nat → List Nat} (h : SR X lo v K fs es gt gf) {S : Nat → Prop} (hc : Ch S X Y) (hn : ∀ z, S z → z < lo) : SR Y lo v K fs es gt gf := by
  obtain ⟨p, cap, e, h⟩ := h
  refine ⟨p, cap, e, fun s hs => ?_⟩
  obtain ⟨g, e1, hg, c0, c1, p2, k2, p3, k3, c2, c3, r2, r3, l1, l2, l3⟩ := h s hs
  have hng : ¬ S g := fun e => by have := hn g e; omega
  exact ⟨g, e1, Nat.lt_of_lt_of_le hg hc.size, (hc.cell hg hng).trans c0, (hc.cell hg hng).trans c1, p2, k2, p3, k3, (hc.cell hg hng).trans c2, (hc.cell hg hng).trans c3, r2.ch hc fun a e e2 => (by have := hn _ e2; have := l2 a e; omega), r3.ch hc fun a e e2 => (by have := hn _ e2; have := l3 a e; omega), l1, l2, l3⟩
end Go.Proofs.YthodpkcjdbkdnaaDoor
namespace Go.Proofs.YthodpkcjdbkdnaaDoor
open Go Go.RowKit

theorem sf_some {k : Nat} {s : Int} {v : Value} (h : SF k s = some v) : s = 0 ∧ v = .int .u64 k ∧ k ≠ 0 := by
  unfold SF at h
  split at h
  · rename_i e
    cases h
    exact ⟨e.1, rfl, e.2⟩
  · cases h
theorem or_dif {m k : Nat} (hm : m < 18446744073709551616) (hk : k < 18446744073709551616) : m ||| dif k m = m ||| k := bt_ext fun r => by
  rw [bt_or, bt_or, bt_dif hk hm]
  constructor
  · rintro (h | h)
    · exact .inl h
    · exact .inr h.1
  · rintro (h | h)
    · exact .inl h
    · by_cases e : Bt m r
      · exact .inl e
      · exact .inr ⟨h, e⟩
theorem or_none {m k : Nat} (hm : m < 18446744073709551616) (hk : k < 18446744073709551616) (h : dif k m = 0) : m ||| k = m := by
  rw [← or_dif hm hk, h, Nat.or_zero]
theorem dif_zero (m : Nat) : dif 0 m = 0 := by simp [dif]
/-- A round of the range is over: nothing is left. -/
theorem left_none {k : Nat} : (fun t => (SF k t).isSome && !decide (t = 0)) = fun _ : Int => false := by
  funext t
  by_cases e : t = 0
  · simp [e]
  · rw [sf_other e]
    rfl
def JoinPost (W : World) (b m k : Nat) (e : Ending) (w' : World) : Prop := ∃ f, e = .returned (.map (some f)) ∧ ST w' f (dif k m) ∧ ST w' b (m ||| k) ∧ W.heap.size ≤ f ∧ Ch (fun z => z = b) W w'
/-- Under way. -/
def JRel (W : World) (b fb f r m k : Nat) (wr : World) : Prop := ∃ left cnt, KR wr fb r 1 (SF k) left cnt ∧ ((left = (fun s => (SF k s).isSome) ∧ ST wr b m ∧ ST wr f 0) ∨ ((∀ s, left s = false) ∧ ST wr b (m ||| k) ∧ ST wr f (dif k m))) ∧ Ch (fun z => z = b) W wr
set_option maxRecDepth 100000 in
set_option maxHeartbeats 4000000 in
theorem join_c {W : World} {b m fb k : Nat} (h : Hid (ST W b m)) (hf : Hid (ST W fb k)) (hne : b ≠ fb) : Calls Tryd.prog 44 #[.map (some b), .map (some fb)] W (JoinPost W b m k) := by
  have hml := h.out.lt
  have hkl := hf.out.lt
  have hmm := @run_makeMap Tryd.prog
  go_enter Tryd.func44, Tryd.ntmps44
  go_upto_region 2 with (fail)
  refine name_world ?_
  intro V1 hV1
  obtain ⟨f, hf1⟩ : ∃ f, W.heap.size = f := ⟨_, rfl⟩
  have HF : Hid (ST V1 f 0) := Lib.hid (by rw [hV1, ← hf1]; exact ST.made W)
  have HB1 : Hid (Below W.heap.size W V1) := Lib.hid (by rw [hV1]; exact below1 _ _)
  have HS1 := Lib.hid (h.out.stay HB1.out)
  have HG1 := Lib.hid (hf.out.stay HB1.out)
  have hbf : b ≠ f := by have := h.out.bl; omega
  have hff : fb ≠ f := by have := hf.out.bl; omega
  have HFW := Lib.hid hf1
  try rw [hf1]
  clear hV1 hf1 hmm
  go_wp2_with (first | (at_range; refine wpList_rangeK rfl _ rfl Tryd.underlying64 fb 1 (SF k) rfl HG1.out.km ?_; intro w0 cnt0 hkr0 hg0 hs0; have HR0 := Lib.hid (And.intro hkr0 (And.intro hg0 hs0)); clear hkr0 hg0 hs0))
  go_frame
  obtain ⟨r, hr1⟩ : ∃ r, V1.heap.size = r := ⟨_, rfl⟩
  rw [hr1]
  have hrb : r ≠ b ∧ r ≠ f := by
    have h1 := HS1.out.bl
    have h2 := HF.out.bl
    omega
  have HR1 : Hid (JRel W b fb f r m k w0) := Lib.hid (by
    have h0 := HR0.out.1
    rw [hr1] at h0
    have hc : Ch (fun _ => False) V1 w0 := (Ch.refl _ _).grown HR0.out.2.1 (fun z e => by cases e)
    exact ⟨_, _, h0, .inl ⟨rfl, HS1.out.ch hc id, HF.out.ch hc id⟩, (Ch.of HB1.out).trans (hc.mono fun _ _ e => e.elim)⟩)
  have HRW : Hid (W.heap.size ≤ r) := Lib.hid (by rw [← hr1]; exact HB1.out.size)
  clear hr1 HR0
  go_loopw [11] (fun _ wr => Hid (JRel W b fb f r m k wr)) (fun _ wr => wr.rangeLeft fb r)
  case atStart => exact HR1
  case round =>
    obtain ⟨wo, rfl⟩ : ∃ wo : World, wo = wr := ⟨_, rfl⟩
    obtain ⟨left, cnt, hkr, hst, hch⟩ := hrel.out
    go_wp2_with (at_next; refine wpList_nextK rfl _ rfl fb r 1 (SF k) left cnt rfl hkr ?_ ?_)
    case refine_1 =>
      intro hl
      go_wp2
      go_ret
      rcases hst with ⟨rfl, s1, s2⟩ | ⟨-, s1, s2⟩
      · have hk0 : k = 0 := by
          refine Classical.byContradiction fun hk => ?_
          have h5 : (SF k 0).isSome = false := hl 0
          rw [sf_zero hk] at h5
          cases h5
        subst hk0
        refine ⟨f, rfl, by rw [dif_zero]; exact s2, by rw [Nat.or_zero]; exact s1, Nat.le_of_eq HFW.out, ?_⟩
        exact hch
      · exact ⟨f, rfl, s2, s1, Nat.le_of_eq HFW.out, hch⟩
    case refine_2 =>
      intro s v w1 cnt1 hls hfs hkr1 hlt1 hg1 hs1 hen
      obtain ⟨rfl, rfl, hk0⟩ := sf_some hfs
      rcases hst with ⟨rfl, s1, s2⟩ | ⟨hno, -, -⟩
      · have hc1 : Ch (fun z => z = r) wo w1 := (Ch.refl _ _).grown hg1 (fun z e => .inl (by cases e; rfl))
        have HS2 : Hid (ST w1 b m) := Lib.hid (s1.ch hc1 fun e => hrb.1 e.symm)
        have HF2 : Hid (ST w1 f 0) := Lib.hid (s2.ch hc1 fun e => hrb.2 e.symm)
        have hc2 : Ch (fun z => z = b) W w1 := hch.fresh hc1 fun z hz e => by have := HRW.out; omega
        have HC2 := Lib.hid hc2
        have HK2 := Lib.hid hkr1
        have HL2 := Lib.hid (And.intro hkr.left_eq hlt1)
        have hlk := HS2.out.look
        have hnot : bits .andNot .u64 (k : Int) (m : Int) = ((dif k m : Nat) : Int) := u64_andNot_nat k m hkl hml
        have hdl := dif_lt (b := m) hkl
        obtain ⟨D, hD⟩ : ∃ D, dif k m = D := ⟨_, rfl⟩
        rw [hD] at hnot hdl
        have HD := Lib.hid hD
        clear hkr hch hrel hls hfs hkr1 hlt1 hg1 hs1 s1 s2 hc1 hc2 hD HR1
        by_cases hD0 : D = 0
        · subst hD0
          go_wp2
          go_roundw
          case rel =>
            have hk := HK2.out
            rw [left_none] at hk
            exact Lib.hid ⟨_, _, hk, .inr ⟨fun _ => rfl, by rw [or_none hml hkl HD.out]; exact HS2.out, by rw [HD.out]; exact HF2.out⟩, HC2.out⟩
          case measure =>
            rw [HK2.out.left_eq, HL2.out.1]
            exact HL2.out.2
        · have hor := bits_or_u64_nat m D hml hdl
          have hDi : ¬ (D : Int) = 0 := by omega
          obtain ⟨N, hN⟩ : ∃ N, m ||| D = N := ⟨_, rfl⟩
          rw [hN] at hor
          have HN := Lib.hid hN
          clear hN
          have HD0 := Lib.hid hD0
          clear hD0
          go_wp2_with (first
            | (at_mapUpdate; refine wpList_putK rfl (.tmp 23) (.tmp 24) (.tmp 27) rfl keyedI Tryd.underlying64 b 1 (SF m) rfl HS2.out.km (by decide) 0 (.int .u64 N) rfl rfl key0 ?_; intro w4 hk4 hg4; have HW4 := Lib.hid (And.intro hk4 hg4); have HF4 : Hid (ST w4 f 0) := Lib.hid (HF2.out.ch ((Ch.refl (fun z => z = b) _).grown hg4 (fun z e => .inl (by cases e; rfl))) fun e => hbf e.symm); clear hk4 hg4)
            | (at_mapUpdate; refine wpList_putK rfl (.tmp 28) (.tmp 29) (.tmp 30) rfl keyedI Tryd.underlying64 f 1 (SF 0) rfl HF4.out.km (by decide) 0 (.int .u64 D) rfl rfl key0 ?_; intro w5 hk5 hg5; have HW5 := Lib.hid (And.intro hk5 hg5); clear hk5 hg5))
          have hc4 : Ch (fun z => z = b) w1 w4 := (Ch.refl _ _).grown HW4.out.2 (fun z e => .inl (by cases e; rfl))
          have hc5 : Ch (fun z => z = f) w4 w5 := (Ch.refl _ _).grown HW5.out.2 (fun z e => .inl (by cases e; rfl))
          have hk5 := (HK2.out.ch hc4 (fun e => hne e.symm) hrb.1).ch hc5 hff hrb.2
          rw [left_none] at hk5
          have HK5 := Lib.hid hk5
          have HS5 : Hid (ST w5 b (m ||| k)) := Lib.hid (by
            have hN0 : N ≠ 0 := fun e => HD0.out (by
              have h1 := HN.out
              rw [e] at h1
              exact bt_none fun r hr => bt_zero r (by rw [← h1]; exact bt_or.2 (.inr hr)))
            have h1 : ST w4 b N := ST.of_put HW4.out.1 rfl hN0 (by rw [← HN.out]; exact or_lt hml hdl)
            have h2 : m ||| k = N := by rw [← HN.out, ← HD.out, or_dif hml hkl]
            rw [h2]
            exact h1.ch hc5 hbf)
          have HF5 : Hid (ST w5 f (dif k m)) := Lib.hid (by
            rw [HD.out]
            exact ST.of_put HW5.out.1 rfl HD0.out hdl)
          have HC5 : Hid (Ch (fun z => z = b) W w5) := Lib.hid ((HC2.out.trans (hc4.mono fun _ _ e => e) |>.fresh hc5 fun z hz e => by have := HFW.out; omega))
          clear hc4 hc5 hk5
          go_roundw
          case rel => exact Lib.hid ⟨_, _, HK5.out, .inr ⟨fun _ => rfl, HS5.out, HF5.out⟩, HC5.out⟩
          case measure =>
            rw [HK5.out.left_eq, HL2.out.1]
            exact HL2.out.2
      · rw [hno 0] at hls
        cases hls
set_option maxRecDepth 100000 in
set_option maxHeartbeats 2000000 in
theorem many_c {W : World} {fb k : Nat} (hf : Hid (ST W fb k)) : Calls Tryd.prog 35 #[.map (some fb)] W fun e w' => e = .returned (.int .i64 (rowM k).length) ∧ Below W.heap.size W w' := by
  have hkl := hf.out.lt
  go_enter Tryd.func35, Tryd.ntmps35
  go_wp2_with (first | (at_range; refine wpList_rangeK rfl _ rfl Tryd.underlying64 fb 1 (SF k) rfl hf.out.km ?_; intro w0 cnt0 hkr0 hg0 hs0; have HR0 := Lib.hid (And.intro hkr0 (And.intro hg0 hs0)); clear hkr0 hg0 hs0))
  go_frame
  obtain ⟨r, hr1⟩ : ∃ r, W.heap.size = r := ⟨_, rfl⟩
  rw [hr1]
  have HR1 : Hid (Below W.heap.size W w0) := Lib.hid ((Below.refl _ _).grown HR0.out.2.1 (Nat.le_refl _) (fun z e => by cases e))
  have HK0 : Hid (KR w0 fb r 1 (SF k) (fun s => (SF k s).isSome) cnt0) := Lib.hid (by
    have h0 := HR0.out.1
    rwa [hr1] at h0)
  have HRW := Lib.hid hr1
  have hlk := rowM_len k
  clear hr1 HR0
  go_loopw [3] (fun a wr => ∃ (n : Nat) (left : Int → Bool) (cnt : Nat), a = .int .i64 n ∧ Hid (KR wr fb r 1 (SF k) left cnt ∧ ((left = (fun s => (SF k s).isSome) ∧ n = 0) ∨ ((∀ s, left s = false) ∧ n = (rowM k).length)) ∧ Below W.heap.size W wr)) (fun _ wr => wr.rangeLeft fb r)
  case atStart => exact ⟨0, _, _, rfl, Lib.hid ⟨HK0.out, .inl ⟨rfl, rfl⟩, HR1.out⟩⟩
  case round =>
    obtain ⟨wo, rfl⟩ : ∃ wo : World, wo = wr := ⟨_, rfl⟩
    obtain ⟨n, left, cnt, rfl, HS⟩ := hrel
    go_wp2_with (at_next; refine wpList_nextK rfl _ rfl fb r 1 (SF k) left cnt rfl HS.out.1 ?_ ?_)
    case refine_1 =>
      intro hl
      go_wp2
      go_ret
      rcases HS.out.2.1 with ⟨rfl, rfl⟩ | ⟨-, rfl⟩
      · have hk0 : k = 0 := by
          refine Classical.byContradiction fun hk => ?_
          have h5 : (SF k 0).isSome = false := hl 0
          rw [sf_zero hk] at h5
          cases h5
        subst hk0
        exact ⟨by rw [rowM_zero]; rfl, HS.out.2.2⟩
      · exact ⟨rfl, HS.out.2.2⟩
    case refine_2 =>
      intro s v w1 cnt1 hls hfs hkr1 hlt1 hg1 hs1 hen
      obtain ⟨rfl, rfl, hk0⟩ := sf_some hfs
      have HO := Lib.hid (ones_c k hkl)
      have HN1 := Lib.hid (And.intro hls (And.intro hkr1 (And.intro hlt1 (And.intro hg1 hs1))))
      have hn0 : n = 0 := by
        rcases HS.out.2.1 with ⟨-, h⟩ | ⟨h, -⟩
        · exact h
        · rw [h 0] at hls
          cases hls
      subst hn0
      have hle : left = fun s => (SF k s).isSome := by
        rcases HS.out.2.1 with ⟨h, -⟩ | ⟨h, -⟩
        · exact h
        · rw [h 0] at hls
          cases hls
      subst hle
      clear hls hfs hkr1 hlt1 hg1 hs1
      go_wp2_with (go_at_call 53; (with_reducible refine (HO.out _).mono ?_); rintro e7 w7 ⟨rfl, rfl⟩)
      go_roundw
      case rel =>
        refine ⟨(rowM k).length, _, _, rfl, Lib.hid ⟨HN1.out.2.1, .inr ⟨fun s => ?_, rfl⟩, HS.out.2.2.grown HN1.out.2.2.2.1 HS.out.2.2.size (fun z e => by cases e; exact Nat.le_of_eq HRW.out)⟩⟩
        exact congrFun left_none s
      case measure =>
        rw [HN1.out.2.1.left_eq, HS.out.1.left_eq]
        exact HN1.out.2.2.1
end Go.Proofs.YthodpkcjdbkdnaaDoor
namespace Go.Proofs.YthodpkcjdbkdnaaDoor
open Go Go.RowKit Gm

theorem up_at {l : List Int} (h : l.Pairwise (· < ·)) {i j : Nat} (hij : i < j) (hj : j < l.length) : l.getD i 0 < l.getD j 0 := by
  rw [List.getD_eq_getElem?_getD, List.getD_eq_getElem?_getD, List.getElem?_eq_getElem hj, List.getElem?_eq_getElem (Nat.lt_trans hij hj)]
  exact (List.pairwise_iff_getElem.1 h) i j (Nat.lt_trans hij hj) hj hij
/-- A number is put in at a place. -/
def put1 (l : List Int) (at' : Nat) (x : Int) : List Int := l.take at' ++ [x] ++ l.drop at'
theorem put1_mem (l : List Int) (k : Nat) (x r : Int) : r ∈ put1 l k x ↔ r ∈ l ∨ r = x := by
  unfold put1
  rw [List.mem_append, List.mem_append, List.mem_singleton]
  constructor
  · rintro ((h | h) | h)
    · exact .inl (List.mem_of_mem_take h)
    · exact .inr h
    · exact .inl (List.mem_of_mem_drop h)
  · rintro (h | h)
    · rw [← List.take_append_drop k l] at h
      rcases List.mem_append.1 h with h | h
      · exact .inl (.inl h)
      · exact .inr h
    · exact .inl (.inr h)
theorem put1_len (l : List Int) (k : Nat) (x : Int) : (put1 l k x).length = l.length + 1 := by
  unfold put1
  simp
  omega
theorem put1_up {l : List Int} {k : Nat} {x : Int} (h : l.Pairwise (· < ·)) (hl : ∀ j, j < k → l.getD j 0 < x) (hk : k ≤ l.length) (hx : k = l.length ∨ x < l.getD k 0) : (put1 l k x).Pairwise (· < ·) := by
  unfold put1
  rw [List.append_assoc, List.pairwise_append]
  have hd : ∀ r, r ∈ l.drop k → x < r := fun r hr => by
    obtain ⟨j, hj, e⟩ := List.mem_iff_getElem.1 hr
    rw [List.length_drop] at hj
    rw [List.getElem_drop] at e
    have e2 : l.getD (k + j) 0 = r := by rw [List.getD_eq_getElem?_getD, List.getElem?_eq_getElem (by omega)]; exact e
    rcases hx with hx | hx
    · omega
    · rcases Nat.eq_zero_or_pos j with rfl | hp
      · rw [← e2]; exact hx
      · have := up_at h (i := k) (j := k + j) (by omega) (by omega)
        omega
  refine ⟨h.sublist (List.take_sublist _ _), ?_, fun a ha b hb => ?_⟩
  · rw [List.singleton_append, List.pairwise_cons]
    exact ⟨hd, h.sublist (List.drop_sublist _ _)⟩
  · have hax : a < x := by
      obtain ⟨j, hj, e⟩ := List.mem_iff_getElem.1 ha
      rw [List.length_take] at hj
      rw [List.getElem_take] at e
      have := hl j (by omega)
      rw [List.getD_eq_getElem?_getD, List.getElem?_eq_getElem (by omega)] at this
      rw [← e]
      exact this
    rcases List.mem_append.1 hb with hb | hb
    · rw [List.mem_singleton.1 hb]; exact hax
    · exact Int.lt_trans hax (hd b hb)
/-- A row that is read to be appended. -/
def Src (w : World) (p : Option Addr) (m c : Nat) (ys : List Int) : Prop := (p = none ∧ m = 0 ∧ c = 0 ∧ ys = []) ∨ ∃ ad, p = some ad ∧ ys.length = m ∧ ∀ j u, ys[j]? = some u → w.cell? (ad.add j) = some (.int .i64 u)
theorem wpList_app_sl {P : Program} {w : World} {ops : Array Oper} {rest : List Oper} {o : Oper} {a : Act} {Q : Exit → Act → World → Prop} (hgd : o.guard = none) (s x : Operand) (t : TypeId)
    (ho : o.op = .call { callee := .builtin .append, args := #[s, x], argTypes := #[t, t] })
    (i : TypeInfo) (ht : P.underlying t = some (.slice 3)) (hi : P.info? 3 = some i) (hz : i.zero = some (.int .i64 0)) (hsize : i.size = 1) (hby : i.bytes = 8)
    {B : Nat} {v : Value} {l : List Int} (hs : a.eval s = v) (hown : Rw B w v l) {p : Option Addr} {m c : Nat} {ys : List Int} (hx : a.eval x = .slice p m c) (hsrc : Src w p m c ys)
    (hbd : l.length + m ≤ 10000000) (hB : B ≤ w.heap.size)
    (h : ∀ q k c' w', k = l.length + m → Rw B w' (.slice q k c') (l ++ ys) → Below B w w' → wpList P ops Q rest (a.put o.dst (.slice q k c')) w') : wpList P ops Q (o :: rest) a w := by
  rcases hsrc with ⟨rfl, rfl, rfl, rfl⟩ | ⟨ad, rfl, hl, hc⟩
  · have hown' := hown
    unfold Rw at hown'
    refine wpList_append_own_none hgd s x t ho B 3 i 1 ht hi v l.length (l.map (Value.int .i64)) hs hown' hx ?_
    obtain ⟨q, cq, rfl, -⟩ := hown.gv.open
    exact h q _ cq w rfl (by simpa using hown) (Below.refl _ _)
  · have hown' := hown
    unfold Rw at hown'
    have hcl : ∀ e, v.ownBlock = some e → B ≤ e := fun e he => (World.ownsRow.lt hown' e he).1
    refine wpList_append_own w hgd s x t ho B 3 i (.int .i64 0) 1 8 ht hi hz hsize hby rfl (by decide) v l.length (l.map (Value.int .i64)) hs hown' ad m c (ys.map (Value.int .i64)) hx (by simpa using hl) (fun j u hu => by
      rw [List.getElem?_map] at hu
      cases hy : ys[j]? with
      | none => rw [hy] at hu; cases hu
      | some z => rw [hy] at hu; cases hu; exact hc j z hy) (fun u hu => by
      obtain ⟨z, _, rfl⟩ := List.mem_map.1 hu
      rfl) (by unfold maxLen; omega) (by omega) hB ?_
    intro v' w' h2 h3 _
    have h2' : Rw B w' v' (l ++ ys) := by
      unfold Rw
      rw [List.map_append, List.length_append, hl]
      exact h2
    obtain ⟨q, cq, e, -⟩ := h2'.gv.open
    rw [List.length_append, hl] at e
    subst e
    exact h q _ cq w' rfl h2' ⟨h3.os, h3.tape, h3.output, h3.size, fun k hk => h3.block k (Nat.lt_of_lt_of_le hk hB) (fun e => by have := hcl k e.symm; omega)⟩
end Go.Proofs.YthodpkcjdbkdnaaDoor
namespace Go.Proofs.YthodpkcjdbkdnaaDoor
open Go Go.RowKit Gm

/-- What an instruction reads and writes. -/
def rgs (x : Ic) : List Int := usesM x ++ (if 0 ≤ defM x then [defM x] else [])
theorem rgs_len (x : Ic) : (rgs x).length ≤ 4 := by
  have := uses_len x
  unfold rgs
  rw [List.length_append]
  split <;> simp <;> omega
theorem rgs_mem (x : Ic) (r : Int) : r ∈ rgs x ↔ r ∈ usesM x ∨ (defM x = r ∧ 0 ≤ r) := by
  unfold rgs
  rw [List.mem_append]
  by_cases h : 0 ≤ defM x
  · rw [if_pos h, List.mem_singleton]
    exact or_congr_right ⟨fun e => ⟨e.symm, by omega⟩, fun e => e.1.symm⟩
  · rw [if_neg h]
    exact or_congr_right ⟨fun e => absurd e (by simp), fun e => absurd (e.1 ▸ e.2) h⟩
/-- The registers of the first ones. -/
structure RgI (c : List Ic) (i : Nat) (l : List Int) : Prop where
  up : l.Pairwise (· < ·)
  mem : ∀ r, r ∈ l ↔ ∃ (j : Nat) (x : Ic), j < i ∧ c[j]? = some x ∧ r ∈ rgs x
  len : l.length ≤ 4 * i
/-- .. and some of the next one's. -/
structure RgK (l0 u : List Int) (k : Nat) (l : List Int) : Prop where
  up : l.Pairwise (· < ·)
  mem : ∀ r, r ∈ l ↔ r ∈ l0 ∨ r ∈ u.take k
  len : l.length ≤ l0.length + k
theorem RgI.new (c : List Ic) : RgI c 0 [] := ⟨.nil, fun r => ⟨fun h => (by cases h), fun ⟨_, _, h, _⟩ => absurd h (Nat.not_lt_zero _)⟩, Nat.le_refl _⟩
section
variable {c : List Ic} {i k : Nat} {l l0 u : List Int} {x : Ic} {z : Int}
theorem RgI.start (h : RgI c i l) (u : List Int) : RgK l u 0 l := ⟨h.up, fun r => by simp, Nat.le_refl _⟩
theorem RgK.next (h : RgI c i l0) (hk : RgK l0 (rgs x) (rgs x).length l) (hx : c[i]? = some x) : RgI c (i + 1) l := by
  refine ⟨hk.up, fun r => ?_, by have := hk.len; have := h.len; have := rgs_len x; omega⟩
  rw [hk.mem, h.mem, List.take_length]
  constructor
  · rintro (⟨j, y, a, b, d⟩ | d)
    · exact ⟨j, y, by omega, b, d⟩
    · exact ⟨i, x, by omega, hx, d⟩
  · rintro ⟨j, y, a, b, d⟩
    by_cases e : j = i
    · subst e
      rw [hx] at b
      cases b
      exact .inr d
    · exact .inl ⟨j, y, by omega, b, d⟩
theorem RgK.skip (h : RgK l0 u k l) (hz : u[k]? = some z) (hm : z ∈ l) : RgK l0 u (k + 1) l := by
  refine ⟨h.up, fun r => ?_, by have := h.len; omega⟩
  rw [h.mem, List.take_add_one, hz]
  simp only [Option.toList_some, List.mem_append, List.mem_singleton]
  constructor
  · rintro (e | e)
    · exact .inl e
    · exact .inr (.inl e)
  · rintro (e | e | e)
    · exact .inl e
    · exact .inr e
    · rw [e]
      exact (h.mem z).1 hm
theorem RgK.put (h : RgK l0 u k l) (hz : u[k]? = some z) {p : Nat} (hp : p ≤ l.length) (hl : ∀ j, j < p → l.getD j 0 < z) (hx : p = l.length ∨ z < l.getD p 0) : RgK l0 u (k + 1) (put1 l p z) := by
  refine ⟨put1_up h.up hl hp hx, fun r => ?_, by rw [put1_len]; have := h.len; omega⟩
  rw [put1_mem, h.mem, List.take_add_one, hz]
  simp only [Option.toList_some, List.mem_append, List.mem_singleton, or_assoc]
end
theorem src_one (w : World) (z : Int) (T : TypeId) : Src (w.alloc (.cells #[.int .i64 z] T)) (some ⟨w.heap.size, 0, none⟩) 1 1 [z] := .inr ⟨_, rfl, rfl, fun j u hj => by
  match j, hj with
  | 0, hj =>
    simp at hj
    subst hj
    simp [Addr.add]⟩
theorem Rw.src {B : Nat} {w : World} {g cap : Nat} {l : List Int} (h : Rw B w (.slice (some ⟨g, 0, none⟩) l.length cap) l) (a b c' : Nat) (hab : a + b ≤ l.length) : Src w (some ⟨g, a, none⟩) b c' ((l.drop a).take b) := by
  obtain ⟨q, cq, e, hq⟩ := h.gv.open
  cases e
  rcases hq with ⟨e, _⟩ | ⟨g', e, -, -, -, -, -, hcell⟩
  · cases e
  cases e
  refine .inr ⟨_, rfl, by simp; omega, fun j u hj => ?_⟩
  have hjb : j < b := Classical.byContradiction fun hn => by
    rw [List.getElem?_take, if_neg hn] at hj
    cases hj
  rw [List.getElem?_take, if_pos hjb, List.getElem?_drop] at hj
  have := hcell (a + j) (by have := (List.getElem?_eq_some_iff.1 hj).1; omega)
  rw [show iv (fun i => l.getD i 0) (a + j) = .int .i64 u from by simp [iv, List.getD_eq_getElem?_getD, hj]] at this
  have e2 : (⟨g, a, none⟩ : Addr).add j = ⟨g, a + j, none⟩ := by
    unfold Addr.add
    split
    · rename_i h0
      rw [h0, Nat.add_zero]
    · rfl
  rw [e2]
  exact this
theorem Rw.rest1 {B : Nat} {w : World} {g cap : Nat} {l : List Int} (h : Rw B w (.slice (some ⟨g, 0, none⟩) l.length cap) l) (m c' : Nat) (hm : m ≤ l.length) : Src w (some ⟨g, m, none⟩) (l.length - m) c' (l.drop m) := by
  have h0 := h.src m (l.length - m) c' (by omega)
  rw [show (l.drop m).take (l.length - m) = l.drop m from List.take_of_length_le (by simp)] at h0
  exact h0
theorem src_end (w : World) (ad : Addr) (c' : Nat) : Src w (some ad) 0 c' [] := .inr ⟨_, rfl, rfl, fun j u hj => (by cases hj)⟩
theorem src_nil (w : World) : Src w none 0 0 [] := .inl ⟨rfl, rfl, rfl, rfl⟩
set_option maxRecDepth 100000 in
set_option maxHeartbeats 8000000 in
theorem regs_c {W : World} {p : Option Addr} {cap : Nat} {c : List Ic} (hc : Hid (CodeAt W p c)) (hn : c.length ≤ 100000) :
    Calls Tryd.prog 22 #[.slice p c.length cap] W fun e w' => ∃ v l, e = .returned v ∧ Rw W.heap.size w' v l ∧ RgI c c.length l ∧ Below W.heap.size W w' := by
  obtain ⟨i0, hi0, hz0, hz1, hz2⟩ := info_parts info_int
  go_enter Tryd.func22, Tryd.ntmps22
  go_wp2
  go_loopw [3, 4] (fun a3 a4 wr => ∃ (i : Nat) (q : Option Addr) (cq : Nat) (l : List Int), a3 = .slice q l.length cq ∧ a4 = .int .i64 i ∧ i ≤ c.length ∧ Hid (Below W.heap.size W wr ∧ Rw W.heap.size wr (.slice q l.length cq) l ∧ RgI c i l)) (fun _ a4 _ => c.length - (intOf a4).toNat)
  case atStart => exact ⟨0, none, 0, [], rfl, rfl, Nat.zero_le _, Lib.hid ⟨Below.refl _ _, Rw.nil _ _, RgI.new _⟩⟩
  case round =>
    obtain ⟨wo, rfl⟩ : ∃ wo : World, wo = wr := ⟨_, rfl⟩
    obtain ⟨i, q, cq, l, rfl, rfl, hi, HR⟩ := hrel
    by_cases hlt : i < c.length
    · obtain ⟨x, hx⟩ : ∃ x, c[i]? = some x := ⟨_, List.getElem?_eq_getElem hlt⟩
      obtain ⟨gc, oc, ep, hgc, hat7, -⟩ := (hc.out.stay HR.out.1) i x hx
      have HA7 := Lib.hid (And.intro hx (And.intro hgc hat7))
      have k0 := hat7.k
      have k1 := hat7.o
      have k2 := hat7.d
      have k3 := hat7.a
      have k4 := hat7.b
      have k5 := hat7.n
      have k6 := hat7.t
      subst ep
      clear hat7 hx
      have HUS : Hid (∀ w, Calls Tryd.prog 18 #[.agg #[.int .i64 x.k, .int .i64 x.o, .int .i64 x.d, .int .i64 x.a, .int .i64 x.b, .int .i64 x.n, .int .i64 x.t]] w (RowP w (usesM x))) := Lib.hid fun w => ruses_is x w
      have HDF : Hid (∀ w, Calls Tryd.prog 19 #[.agg #[.int .i64 x.k, .int .i64 x.o, .int .i64 x.d, .int .i64 x.a, .int .i64 x.b, .int .i64 x.n, .int .i64 x.t]] w fun e w' => e = .returned (.int .i64 (defM x)) ∧ Below w.heap.size w w') := Lib.hid fun w => rdef_any x w
      have hul := uses_len x
      obtain ⟨u, hu⟩ : ∃ u, usesM x = u := ⟨_, rfl⟩
      obtain ⟨dm, hdm⟩ : ∃ d, defM x = d := ⟨_, rfl⟩
      rw [hu] at HUS hul
      rw [hdm] at HDF
      have HU := Lib.hid hu
      have HDM := Lib.hid hdm
      clear hu hdm
      have hll := HR.out.2.2.len
      go_upto_region 6 with (go_at_call 18; (with_reducible refine (HUS.out _).mono ?_); rintro e2 w2 ⟨v2, rfl, hr2, hb2⟩; obtain ⟨q2, c2, rfl, -⟩ := hr2.gv.open; have HR2 := Lib.hid hr2; have HB2 := Lib.hid hb2; clear hr2 hb2)
      have h7 := HA7.out.2.2.stay HA7.out.2.1 HB2.out
      clear k0 k1 k2 k3 k4 k5 k6
      have k0 := h7.k
      have k1 := h7.o
      have k2 := h7.d
      have k3 := h7.a
      have k4 := h7.b
      have k5 := h7.n
      have k6 := h7.t
      have hgc2 := Nat.lt_of_lt_of_le HA7.out.2.1 HB2.out.size
      clear h7
      go_upto_region 7 with (go_at_call 19; (with_reducible refine (HDF.out _).mono ?_); rintro e4 w4 ⟨rfl, hb4⟩; have HR4 := Lib.hid (HR2.out.stay hb4); have HB4 := Lib.hid (HB2.out.trans (hb4.mono HB2.out.size)); clear hb4)
      clear k0 k1 k2 k3 k4 k5 k6
      have hs4 := HB4.out.size
      obtain ⟨uu, huu⟩ : ∃ uu, rgs x = uu := ⟨_, rfl⟩
      have huul : uu.length ≤ 4 := huu ▸ rgs_len x
      have HUU := Lib.hid huu
      clear huu
      go_upto_if 27 with (fail)
      go_cut [5] from 27 to 31 (fun v X => ∃ q c', v = .slice q uu.length c' ∧ Hid (Rw wo.heap.size X (.slice q uu.length c') uu ∧ Below wo.heap.size wo X))
      case first =>
        by_cases hd0 : 0 ≤ dm
        · have hds : (0 : Int) ≤ dm := hd0
          have HE : Hid (u ++ [dm] = uu) := Lib.hid (by rw [← HUU.out, rgs, HU.out, HDM.out, if_pos hd0])
          go_wp2_with (at_builtin; refine wpList_app_sl rfl (.tmp 28) (.tmp 30) 36 rfl i0 Tryd.underlying36 hi0 hz0 hz1 hz2 rfl (Rw.alloc HR4.out _) rfl (src_one _ _ _) (by simp; omega) (by simp; omega) ?_; intro q8 k8 c8 w8 hk8 hr8 hb8; subst hk8; have HR9 := Lib.hid (And.intro hr8 hb8); clear hr8 hb8)
          go_meet
          have hlen : uu.length = u.length + 1 := by rw [← HE.out]; simp
          rw [hlen, ← HE.out]
          have h9 := HR9.out
          exact ⟨q8, c8, rfl, Lib.hid ⟨by simpa using h9.1, (HB4.out.alloc (by omega) _).trans h9.2⟩⟩
        · have HE : Hid (u = uu) := Lib.hid (by rw [← HUU.out, rgs, HU.out, HDM.out, if_neg hd0, List.append_nil])
          go_wp2
          go_meet
          rw [← HE.out]
          exact ⟨q2, c2, rfl, Lib.hid ⟨HR4.out, HB4.out⟩⟩
      case rest =>
        obtain ⟨q5, c5, rfl, HC⟩ := hcut
        obtain ⟨wb, rfl⟩ : ∃ w : World, w = wc := ⟨_, rfl⟩
        have hsb := HC.out.2.size
        have HO1 := Lib.hid (HR.out.2.1.stay HC.out.2)
        have HBW : Hid (Below W.heap.size W wb) := Lib.hid (HR.out.1.trans (HC.out.2.mono HR.out.1.size))
        go_wp2
        go_loopw [3, 7] (fun a3 a7 wr => ∃ (k : Nat) (q : Option Addr) (cq : Nat) (l' : List Int), a3 = .slice q l'.length cq ∧ a7 = .int .i64 k ∧ k ≤ uu.length ∧ Hid (Below wb.heap.size wb wr ∧ Rw W.heap.size wr (.slice q l'.length cq) l' ∧ RgK l uu k l')) (fun _ a7 _ => uu.length - (intOf a7).toNat)
        case atStart => exact ⟨0, q, cq, l, rfl, rfl, Nat.zero_le _, Lib.hid ⟨Below.refl _ _, HO1.out, HR.out.2.2.start uu⟩⟩
        case round =>
          clear HO1
          obtain ⟨wi, rfl⟩ : ∃ wo : World, wo = wr := ⟨_, rfl⟩
          obtain ⟨k, q, cq, l', rfl, rfl, hk, HK⟩ := hrel
          have hlk := HK.out.2.2.len
          by_cases hkl : k < uu.length
          · obtain ⟨z, hz⟩ : ∃ z, uu[k]? = some z := ⟨_, List.getElem?_eq_getElem hkl⟩
            have HZ := Lib.hid hz
            have hU := HC.out.1
            obtain ⟨q', c', e', hq⟩ := hU.gv.open
            cases e'
            obtain ⟨gu, rfl, -, hgu, -, -, -, hcell⟩ := hq.resolve_left (fun e => by omega)
            have iz := hcell k hkl
            rw [show iv (fun i => uu.getD i 0) k = .int .i64 z from by simp [iv, List.getD_eq_getElem?_getD, hz]] at iz
            have HIZ : Hid (∀ X, Below wi.heap.size wi X → X.cell? ⟨gu, k, none⟩ = some (.int .i64 z)) := Lib.hid fun X hX => ((HK.out.1.trans (hX.mono HK.out.1.size)).cell (p := ⟨gu, k, none⟩) hgu).trans iz
            clear hcell hq hz iz hU
            go_wp2
            go_loopw [8] (fun a8 wr => ∃ (m : Nat), a8 = .int .i64 m ∧ m ≤ l'.length ∧ Hid (Below wi.heap.size wi wr ∧ ∀ j, j < m → l'.getD j 0 < z)) (fun a8 _ => l'.length - (intOf a8).toNat)
            case atStart => exact ⟨0, rfl, Nat.zero_le _, Lib.hid ⟨Below.refl _ _, fun j h => absurd h (Nat.not_lt_zero _)⟩⟩
            case round =>
              obtain ⟨wx, rfl⟩ : ∃ wo : World, wo = wr := ⟨_, rfl⟩
              obtain ⟨m, rfl, hm, HM⟩ := hrel
              have iz := HIZ.out wx HM.out.1
              have HRx := Lib.hid (HK.out.2.1.stay HM.out.1)
              have hsx := HM.out.1.size
              have hsi := HK.out.1.size
              by_cases hml : m < l'.length
              · obtain ⟨qq, cc, ee, hq⟩ := HRx.out.gv.open
                cases ee
                obtain ⟨go, rfl, -, hgo, -, hcap, -, hcell⟩ := hq.resolve_left (fun e => by omega)
                have ie := hcell m hml
                obtain ⟨e0, he0⟩ : ∃ e, l'.getD m 0 = e := ⟨_, rfl⟩
                simp only [iv, he0] at ie
                have HE0 := Lib.hid he0
                clear hcell hq he0
                have g1 : decide (m < l'.length) = true := by simp [hml]
                by_cases hez : e0 < z
                · have g2 : decide (e0 < z) = true := by simp [hez]
                  have HEZ := Lib.hid hez
                  clear hez
                  go_wp2
                  go_quiet (fail)
                  go_wp2
                  go_roundw
                  case rel => exact ⟨m + 1, by go_num, by omega, Lib.hid ⟨below_like HM.out.1 rfl rfl rfl rfl, fun j hj => by
                    by_cases e : j = m
                    · rw [e, HE0.out]; exact HEZ.out
                    · exact HM.out.2 j (by omega)⟩⟩
                  case measure => (simp [intOf]; try omega)
                · have g2 : decide (e0 < z) = false := by simp; omega
                  by_cases heq : e0 = z
                  · have g3 : (e0 == z) = true := by simp [heq]
                    have HP : Hid (RgK l uu (k + 1) l') := Lib.hid (HK.out.2.2.skip HZ.out (by rw [← heq, ← HE0.out]; exact ivl_in hml))
                    clear hez heq
                    go_wp2
                    go_quiet (fail)
                    go_wp2
                    go_quiet (fail)
                    go_wp2
                    go_roundw
                    case rel => exact ⟨k + 1, some ⟨go, 0, none⟩, cq, l', rfl, by go_num, by omega, Lib.hid ⟨below_like (HK.out.1.trans (HM.out.1.mono hsi)) rfl rfl rfl rfl, HRx.out, HP.out⟩⟩
                    case measure => (simp [intOf]; try omega)
                  · have g3 : (e0 == z) = false := by simp [heq]
                    have HP : Hid (RgK l uu (k + 1) (put1 l' m z)) := Lib.hid (HK.out.2.2.put HZ.out hm HM.out.2 (.inr (by rw [HE0.out]; omega)))
                    clear hez heq
                    go_wp2
                    go_quiet (fail)
                    go_wp2
                    go_quiet (fail)
                    go_upto_region 17 with (fail)
                    refine name_world ?_
                    intro wy hwy
                    have HBY : Hid (Below wx.heap.size wx wy) := Lib.hid (by rw [hwy]; exact below_like (Below.refl _ _) rfl rfl rfl rfl)
                    have HRy := Lib.hid (HRx.out.stay HBY.out)
                    have hsy := HBY.out.size
                    have izy := HIZ.out wy (HM.out.1.trans (HBY.out.mono hsx))
                    have hWs := HBW.out.size
                    clear hwy iz ie
                    have hcm : ¬ cq = m := by omega
                    go_upto_region 18 with (at_builtin; refine wpList_app_sl rfl (.tmp 70) (.tmp 73) 36 rfl i0 Tryd.underlying36 hi0 hz0 hz1 hz2 rfl (Rw.nil wy.heap.size wy) rfl (HRy.out.src 0 m _ (by omega)) (by simp; try omega) (Nat.le_refl _) ?_; intro q8 k8 c8 w8 hk8 hr8 hb8; have hkk : k8 = m := (by simpa using hk8); clear hk8; subst k8; have H8 : Hid (Rw wy.heap.size w8 (.slice q8 (m) c8) ((l').take (m)) ∧ Below wy.heap.size wy w8) := Lib.hid ⟨by simpa using hr8, hb8⟩; clear hr8 hb8)
                    have hs8 := H8.out.2.size
                    have iz8 := HIZ.out _ (HM.out.1.trans ((HBY.out.trans (H8.out.2.mono hsy)).mono hsx))
                    clear izy
                    go_upto_region 19 with (at_builtin; refine wpList_app_sl rfl (.tmp 75) (.tmp 80) 36 rfl i0 Tryd.underlying36 hi0 hz0 hz1 hz2 rfl (Rw.alloc H8.out.1 _) rfl (src_one _ _ _) (by simp; try omega) (by simp; omega) ?_; intro q9 k9 c9 w9 hk8 hr8 hb8; have hkk : k9 = (m + 1) := (by simp at hk8; omega); clear hk8; subst k9; have H9 : Hid (Rw wy.heap.size w9 (.slice q9 (m + 1) c9) ((l').take (m) ++ [z]) ∧ Below wy.heap.size wy w9) := Lib.hid ⟨hr8, (H8.out.2.alloc hs8 _).trans hb8⟩; clear hr8 hb8)
                    have hs9 := H9.out.2.size
                    have HRz := Lib.hid (HRy.out.stay H9.out.2)
                    clear iz8
                    go_upto_region 20 with (at_builtin; refine wpList_app_sl rfl (.tmp 82) (.tmp 85) 36 rfl i0 Tryd.underlying36 hi0 hz0 hz1 hz2 rfl H9.out.1 rfl (HRz.out.rest1 m _ hm) (by simp; try omega) hs9 ?_; intro q10 k10 c10 w10 hk8 hr8 hb8; have hkk : k10 = ((l').length + 1) := (by simp at hk8; omega); clear hk8; subst k10; have H10 : Hid (Rw wy.heap.size w10 (.slice q10 ((l').length + 1) c10) (put1 (l') (m) z) ∧ Below wy.heap.size wy w10) := Lib.hid ⟨hr8, H9.out.2.trans hb8⟩; clear hr8 hb8)
                    have h10 := H10.out
                    clear H10
                    go_wp2
                    go_roundw
                    case rel => exact ⟨k + 1, q10, c10, put1 (l') (m) z, by rw [put1_len] <;> rfl, by go_num, by omega, Lib.hid ⟨below_like (HK.out.1.trans ((HM.out.1.trans ((HBY.out.trans (h10.2.mono hsy)).mono hsx)).mono hsi)) rfl rfl rfl rfl, by rw [put1_len]; exact h10.1.mono (by omega), HP.out⟩⟩
                    case measure => (simp [intOf]; try omega)
              · obtain rfl : m = l'.length := by omega
                have g1 : decide (l'.length < l'.length) = false := by simp
                have HP : Hid (RgK l uu (k + 1) (put1 l' l'.length z)) := Lib.hid (HK.out.2.2.put HZ.out (Nat.le_refl _) HM.out.2 (.inl rfl))
                rcases HRx.out.open with ⟨e1, e2⟩ | ⟨go, cap', e1, -, -, hcap, -⟩
                · subst e2
                  cases e1
                  go_wp2
                  go_quiet (fail)
                  go_wp2
                  go_quiet (fail)
                  go_upto_region 17 with (fail)
                  refine name_world ?_
                  intro wy hwy
                  have HBY : Hid (Below wx.heap.size wx wy) := Lib.hid (by rw [hwy]; exact below_like (Below.refl _ _) rfl rfl rfl rfl)
                  have HRy := Lib.hid (HRx.out.stay HBY.out)
                  have hsy := HBY.out.size
                  have izy := HIZ.out wy (HM.out.1.trans (HBY.out.mono hsx))
                  have hWs := HBW.out.size
                  clear hwy iz 
                  go_upto_region 18 with (at_builtin; refine wpList_app_sl rfl (.tmp 70) (.tmp 73) 36 rfl i0 Tryd.underlying36 hi0 hz0 hz1 hz2 rfl (Rw.nil wy.heap.size wy) rfl (src_nil _) (by simp; try omega) (Nat.le_refl _) ?_; intro q8 k8 c8 w8 hk8 hr8 hb8; have hkk : k8 = 0 := (by simpa using hk8); clear hk8; subst k8; have H8 : Hid (Rw wy.heap.size w8 (.slice q8 (0) c8) ((([] : List Int)).take (0)) ∧ Below wy.heap.size wy w8) := Lib.hid ⟨by simpa using hr8, hb8⟩; clear hr8 hb8)
                  have hs8 := H8.out.2.size
                  have iz8 := HIZ.out _ (HM.out.1.trans ((HBY.out.trans (H8.out.2.mono hsy)).mono hsx))
                  clear izy
                  go_upto_region 19 with (at_builtin; refine wpList_app_sl rfl (.tmp 75) (.tmp 80) 36 rfl i0 Tryd.underlying36 hi0 hz0 hz1 hz2 rfl (Rw.alloc H8.out.1 _) rfl (src_one _ _ _) (by simp; try omega) (by simp; omega) ?_; intro q9 k9 c9 w9 hk8 hr8 hb8; have hkk : k9 = (0 + 1) := (by simp at hk8; omega); clear hk8; subst k9; have H9 : Hid (Rw wy.heap.size w9 (.slice q9 (0 + 1) c9) ((([] : List Int)).take (0) ++ [z]) ∧ Below wy.heap.size wy w9) := Lib.hid ⟨hr8, (H8.out.2.alloc hs8 _).trans hb8⟩; clear hr8 hb8)
                  have hs9 := H9.out.2.size
                  have HRz := Lib.hid (HRy.out.stay H9.out.2)
                  clear iz8
                  go_upto_region 20 with (at_builtin; refine wpList_app_sl rfl (.tmp 82) (.tmp 85) 36 rfl i0 Tryd.underlying36 hi0 hz0 hz1 hz2 rfl H9.out.1 rfl (src_nil _) (by simp; try omega) hs9 ?_; intro q10 k10 c10 w10 hk8 hr8 hb8; have hkk : k10 = ((([] : List Int)).length + 1) := (by simp at hk8; omega); clear hk8; subst k10; have H10 : Hid (Rw wy.heap.size w10 (.slice q10 ((([] : List Int)).length + 1) c10) (put1 (([] : List Int)) (0) z) ∧ Below wy.heap.size wy w10) := Lib.hid ⟨by unfold put1; rw [show (([] : List Int)).drop (0) = [] from by simp]; exact hr8, H9.out.2.trans hb8⟩; clear hr8 hb8)
                  have h10 := H10.out
                  clear H10
                  go_wp2
                  go_roundw
                  case rel => exact ⟨k + 1, q10, c10, put1 (([] : List Int)) (0) z, by rw [put1_len] <;> rfl, by go_num, by omega, Lib.hid ⟨below_like (HK.out.1.trans ((HM.out.1.trans ((HBY.out.trans (h10.2.mono hsy)).mono hsx)).mono hsi)) rfl rfl rfl rfl, by rw [put1_len]; exact h10.1.mono (by omega), HP.out⟩⟩
                  case measure => (simp [intOf]; try omega)
                · cases e1
                  by_cases hcm : cq = l'.length
                  · go_wp2
                    go_quiet (fail)
                    go_wp2
                    go_quiet (fail)
                    go_upto_region 17 with (fail)
                    refine name_world ?_
                    intro wy hwy
                    have HBY : Hid (Below wx.heap.size wx wy) := Lib.hid (by rw [hwy]; exact below_like (Below.refl _ _) rfl rfl rfl rfl)
                    have HRy := Lib.hid (HRx.out.stay HBY.out)
                    have hsy := HBY.out.size
                    have izy := HIZ.out wy (HM.out.1.trans (HBY.out.mono hsx))
                    have hWs := HBW.out.size
                    clear hwy iz 
                    go_upto_region 18 with (at_builtin; refine wpList_app_sl rfl (.tmp 70) (.tmp 73) 36 rfl i0 Tryd.underlying36 hi0 hz0 hz1 hz2 rfl (Rw.nil wy.heap.size wy) rfl (HRy.out.src 0 l'.length _ (by omega)) (by simp; try omega) (Nat.le_refl _) ?_; intro q8 k8 c8 w8 hk8 hr8 hb8; have hkk : k8 = l'.length := (by simpa using hk8); clear hk8; subst k8; have H8 : Hid (Rw wy.heap.size w8 (.slice q8 (l'.length) c8) ((l').take (l'.length)) ∧ Below wy.heap.size wy w8) := Lib.hid ⟨by simpa using hr8, hb8⟩; clear hr8 hb8)
                    have hs8 := H8.out.2.size
                    have iz8 := HIZ.out _ (HM.out.1.trans ((HBY.out.trans (H8.out.2.mono hsy)).mono hsx))
                    clear izy
                    go_upto_region 19 with (at_builtin; refine wpList_app_sl rfl (.tmp 75) (.tmp 80) 36 rfl i0 Tryd.underlying36 hi0 hz0 hz1 hz2 rfl (Rw.alloc H8.out.1 _) rfl (src_one _ _ _) (by simp; try omega) (by simp; omega) ?_; intro q9 k9 c9 w9 hk8 hr8 hb8; have hkk : k9 = (l'.length + 1) := (by simp at hk8; omega); clear hk8; subst k9; have H9 : Hid (Rw wy.heap.size w9 (.slice q9 (l'.length + 1) c9) ((l').take (l'.length) ++ [z]) ∧ Below wy.heap.size wy w9) := Lib.hid ⟨hr8, (H8.out.2.alloc hs8 _).trans hb8⟩; clear hr8 hb8)
                    have hs9 := H9.out.2.size
                    have HRz := Lib.hid (HRy.out.stay H9.out.2)
                    clear iz8
                    go_upto_region 20 with (at_builtin; refine wpList_app_sl rfl (.tmp 82) (.tmp 85) 36 rfl i0 Tryd.underlying36 hi0 hz0 hz1 hz2 rfl H9.out.1 rfl (src_end _ _ _) (by simp; try omega) hs9 ?_; intro q10 k10 c10 w10 hk8 hr8 hb8; have hkk : k10 = ((l').length + 1) := (by simp at hk8; omega); clear hk8; subst k10; have H10 : Hid (Rw wy.heap.size w10 (.slice q10 ((l').length + 1) c10) (put1 (l') (l'.length) z) ∧ Below wy.heap.size wy w10) := Lib.hid ⟨by unfold put1; rw [show (l').drop (l'.length) = [] from by simp]; exact hr8, H9.out.2.trans hb8⟩; clear hr8 hb8)
                    have h10 := H10.out
                    clear H10
                    go_wp2
                    go_roundw
                    case rel => exact ⟨k + 1, q10, c10, put1 (l') (l'.length) z, by rw [put1_len] <;> rfl, by go_num, by omega, Lib.hid ⟨below_like (HK.out.1.trans ((HM.out.1.trans ((HBY.out.trans (h10.2.mono hsy)).mono hsx)).mono hsi)) rfl rfl rfl rfl, by rw [put1_len]; exact h10.1.mono (by omega), HP.out⟩⟩
                    case measure => (simp [intOf]; try omega)
                  · go_wp2
                    go_quiet (fail)
                    go_wp2
                    go_quiet (fail)
                    go_upto_region 17 with (fail)
                    refine name_world ?_
                    intro wy hwy
                    have HBY : Hid (Below wx.heap.size wx wy) := Lib.hid (by rw [hwy]; exact below_like (Below.refl _ _) rfl rfl rfl rfl)
                    have HRy := Lib.hid (HRx.out.stay HBY.out)
                    have hsy := HBY.out.size
                    have izy := HIZ.out wy (HM.out.1.trans (HBY.out.mono hsx))
                    have hWs := HBW.out.size
                    clear hwy iz 
                    go_upto_region 18 with (at_builtin; refine wpList_app_sl rfl (.tmp 70) (.tmp 73) 36 rfl i0 Tryd.underlying36 hi0 hz0 hz1 hz2 rfl (Rw.nil wy.heap.size wy) rfl (HRy.out.src 0 l'.length _ (by omega)) (by simp; try omega) (Nat.le_refl _) ?_; intro q8 k8 c8 w8 hk8 hr8 hb8; have hkk : k8 = l'.length := (by simpa using hk8); clear hk8; subst k8; have H8 : Hid (Rw wy.heap.size w8 (.slice q8 (l'.length) c8) ((l').take (l'.length)) ∧ Below wy.heap.size wy w8) := Lib.hid ⟨by simpa using hr8, hb8⟩; clear hr8 hb8)
                    have hs8 := H8.out.2.size
                    have iz8 := HIZ.out _ (HM.out.1.trans ((HBY.out.trans (H8.out.2.mono hsy)).mono hsx))
                    clear izy
                    go_upto_region 19 with (at_builtin; refine wpList_app_sl rfl (.tmp 75) (.tmp 80) 36 rfl i0 Tryd.underlying36 hi0 hz0 hz1 hz2 rfl (Rw.alloc H8.out.1 _) rfl (src_one _ _ _) (by simp; try omega) (by simp; omega) ?_; intro q9 k9 c9 w9 hk8 hr8 hb8; have hkk : k9 = (l'.length + 1) := (by simp at hk8; omega); clear hk8; subst k9; have H9 : Hid (Rw wy.heap.size w9 (.slice q9 (l'.length + 1) c9) ((l').take (l'.length) ++ [z]) ∧ Below wy.heap.size wy w9) := Lib.hid ⟨hr8, (H8.out.2.alloc hs8 _).trans hb8⟩; clear hr8 hb8)
                    have hs9 := H9.out.2.size
                    have HRz := Lib.hid (HRy.out.stay H9.out.2)
                    clear iz8
                    go_upto_region 20 with (at_builtin; refine wpList_app_sl rfl (.tmp 82) (.tmp 85) 36 rfl i0 Tryd.underlying36 hi0 hz0 hz1 hz2 rfl H9.out.1 rfl (src_end _ _ _) (by simp; try omega) hs9 ?_; intro q10 k10 c10 w10 hk8 hr8 hb8; have hkk : k10 = ((l').length + 1) := (by simp at hk8; omega); clear hk8; subst k10; have H10 : Hid (Rw wy.heap.size w10 (.slice q10 ((l').length + 1) c10) (put1 (l') (l'.length) z) ∧ Below wy.heap.size wy w10) := Lib.hid ⟨by unfold put1; rw [show (l').drop (l'.length) = [] from by simp]; exact hr8, H9.out.2.trans hb8⟩; clear hr8 hb8)
                    have h10 := H10.out
                    clear H10
                    go_wp2
                    go_roundw
                    case rel => exact ⟨k + 1, q10, c10, put1 (l') (l'.length) z, by rw [put1_len] <;> rfl, by go_num, by omega, Lib.hid ⟨below_like (HK.out.1.trans ((HM.out.1.trans ((HBY.out.trans (h10.2.mono hsy)).mono hsx)).mono hsi)) rfl rfl rfl rfl, by rw [put1_len]; exact h10.1.mono (by omega), HP.out⟩⟩
                    case measure => (simp [intOf]; try omega)
          · obtain rfl : k = uu.length := by omega
            have HN : Hid (RgI c (i + 1) l') := Lib.hid (RgK.next HR.out.2.2 (by rw [HUU.out]; exact HK.out.2.2) HA7.out.1)
            go_wp2
            go_roundw
            case rel => exact ⟨i + 1, q, cq, l', rfl, by go_num, by omega, Lib.hid ⟨below_like (HBW.out.trans (HK.out.1.mono HBW.out.size)) rfl rfl rfl rfl, HK.out.2.1, HN.out⟩⟩
            case measure => (simp [intOf]; try omega)
    · obtain rfl : i = c.length := by omega
      go_wp2
      go_ret
      exact ⟨_, l, rfl, HR.out.2.1, HR.out.2.2, HR.out.1⟩
end Go.Proofs.YthodpkcjdbkdnaaDoor
namespace Go.Proofs.YthodpkcjdbkdnaaDoor
open Go Go.RowKit Gm

theorem apd_like9 {W V X : World} {v v' : Value} (e : W.heap = V.heap) (e1 : W.os = V.os) (e2 : W.tape = V.tape) (e3 : W.output = V.output) (h : Apd W X v v') : Apd V X v v' :=
  ⟨⟨h.1.os.trans e1, h.1.tape.trans e2, h.1.output.trans e3, by rw [← e]; exact h.1.size, fun k a b => by rw [← e]; exact h.1.block k (by rw [e]; exact a) b⟩, by rw [← e]; exact h.2⟩
/-- What is new since stands as it stood. -/
def Kp (W V X : World) : Prop := V.heap.size ≤ X.heap.size ∧ ∀ k, W.heap.size ≤ k → k < V.heap.size → X.heap[k]? = V.heap[k]?
theorem Kp.refl (W V : World) : Kp W V V := ⟨Nat.le_refl _, fun _ _ _ => rfl⟩
open Classical
/-- Those of the first ones of which something holds. -/
noncomputable def sel (T : Int → Prop) (L : List Int) (k : Nat) : List Int := (L.take k).filter fun r => decide (T r)
section
variable {T : Int → Prop} {L : List Int} {k : Nat} {r : Int}
theorem sel_zero (T : Int → Prop) (L : List Int) : sel T L 0 = [] := rfl
theorem sel_yes (hr : L[k]? = some r) (h : T r) : sel T L (k + 1) = sel T L k ++ [r] := by
  unfold sel
  rw [List.take_add_one, hr, List.filter_append]
  simp [h]
theorem sel_no (hr : L[k]? = some r) (h : ¬ T r) : sel T L (k + 1) = sel T L k := by
  unfold sel
  rw [List.take_add_one, hr, List.filter_append]
  simp [h]
theorem sel_len (T : Int → Prop) (L : List Int) (k : Nat) : (sel T L k).length ≤ L.length :=
  Nat.le_trans (List.length_filter_le _ _) (by rw [List.length_take]; omega)
theorem sel_up (h : L.Pairwise (· < ·)) : (sel T L k).Pairwise (· < ·) := (h.sublist (List.take_sublist _ _)).filter _
theorem sel_mem (r : Int) : r ∈ sel T L L.length ↔ r ∈ L ∧ T r := by
  unfold sel
  rw [List.take_length, List.mem_filter, decide_eq_true_eq]
end
/-- The rows while one of them is put together. -/
noncomputable def rows9 (T : Nat → Int → Prop) (L : List Int) (i k t : Nat) : List Int := if t < i then sel (T t) L L.length else if t = i then sel (T t) L k else []
section
variable {T : Nat → Int → Prop} {L : List Int} {i k t : Nat} {r : Int}
theorem rows9_at (T : Nat → Int → Prop) (L : List Int) (i k : Nat) : rows9 T L i k i = sel (T i) L k := by
  unfold rows9
  rw [if_neg (Nat.lt_irrefl _), if_pos rfl]
theorem rows9_of (h : t ≠ i) (k' : Nat) : rows9 T L i k t = rows9 T L i k' t := by
  unfold rows9
  rw [if_neg h, if_neg h]
theorem rows9_next (t : Nat) : rows9 T L i L.length t = rows9 T L (i + 1) 0 t := by
  unfold rows9
  rcases Nat.lt_trichotomy t i with h | h | h
  · rw [if_pos h, if_pos (by omega)]
  · subst h
    rw [if_neg (Nat.lt_irrefl _), if_pos rfl, if_pos (by omega)]
  · rw [if_neg (by omega), if_neg (by omega), if_neg (by omega)]
    split
    · rfl
    · rfl
theorem rows9_yes (hr : L[k]? = some r) (h : T i r) (t : Nat) : rows9 T L i (k + 1) t = upd (rows9 T L i k) i (rows9 T L i k i ++ [r]) t := by
  by_cases e : t = i
  · subst e
    rw [upd_at, rows9_at, rows9_at, sel_yes hr h]
  · rw [upd_of e, rows9_of e]
theorem rows9_no (hr : L[k]? = some r) (h : ¬ T i r) (t : Nat) : rows9 T L i (k + 1) t = rows9 T L i k t := by
  by_cases e : t = i
  · subst e
    rw [rows9_at, rows9_at, sel_no hr h]
  · rw [rows9_of e]
theorem rows9_len (T : Nat → Int → Prop) (L : List Int) (i k t : Nat) : (rows9 T L i k t).length ≤ L.length := by
  unfold rows9
  split
  · exact sel_len _ _ _
  · split
    · exact sel_len _ _ _
    · simp
end
theorem RgI.rg {c : List Ic} {l : List Int} (h : RgI c c.length l) (r : Int) : r ∈ l ↔ Rg c r := by
  rw [h.mem]
  constructor
  · rintro ⟨j, x, _, hx, hm⟩
    exact ⟨j, x, hx, (rgs_mem x r).1 hm⟩
  · rintro ⟨j, x, hx, hm⟩
    exact ⟨j, x, (List.getElem?_eq_some_iff.1 hx).1, hx, (rgs_mem x r).2 hm⟩
set_option maxRecDepth 100000 in
set_option maxHeartbeats 8000000 in
theorem ahead_c {W : World} {p : Option Addr} {cap : Nat} {c : List Ic} (hc : Hid (CodeAt W p c)) (hn : c.length ≤ 100000) : Calls Tryd.prog 13 #[.slice p c.length cap] W fun e w' => ∃ v, e = .returned v ∧ (∀ X, Kp W w' X → Rows2 X v c.length (fun X i u => NRI X u fun r => Nd c r i)) ∧ Below W.heap.size W w' := by
  have hmk := make_ii c.length (by omega)
  go_enter Tryd.func13, Tryd.ntmps13
  go_upto_region 2 with (fail)
  refine name_world ?_
  intro V0 hV0
  obtain ⟨b, hb⟩ : ∃ b, W.heap.size = b := ⟨_, rfl⟩
  have HV0 : Hid (Below W.heap.size W V0 ∧ FV 36 V0 b c.length (fun _ => .slice none 0 0)) := Lib.hid (by
    rw [hV0, ← hb]
    exact ⟨below1 W _, FV.new rfl (by simp)⟩)
  have HB := Lib.hid hb
  try rw [hb]
  clear hV0 hb hmk
  have HC0 : Hid (CodeAt V0 p c) := Lib.hid (hc.out.stay HV0.out.1)
  go_upto_region 3 with (go_at_call 22; ((with_reducible refine (regs_c HC0 hn).mono ?_); rintro e1 V ⟨v, L, rfl, hr, hL, hbl⟩; obtain ⟨qr, cr, rfl, hq⟩ := hr.gv.open; have HV := Lib.hid (And.intro hr.gv (And.intro hL hbl)); clear hr hL hbl hq))
  have hLl := HV.out.2.1.len
  have HP : Hid (Pi W V V b c.length (fun z => if z = b then 4 else 0) (fun _ => .slice none 0 0) (rows9 (fun i r => Nd c r i) L 0 0)) := Lib.hid (by
    have h1 := HV0.out.2.stay HV.out.2.2
    refine ⟨HV0.out.1.trans (HV.out.2.2.mono HV0.out.1.size), Ch.refl _ _, ⟨h1, if_pos rfl, fun x _ => ?_, fun x _ g e => by cases e⟩, by rw [HB.out]; exact Nat.le_refl _, h1.lt⟩
    have : rows9 (fun i r => Nd c r i) L 0 0 x = [] := by
      unfold rows9
      rw [if_neg (Nat.not_lt_zero _)]
      split <;> rfl
    rw [this]
    exact GV.nil _ _ _ _)
  have HRV : Hid (∀ X, Ch (fun z => z = b) V X → ∀ k r, L[k]? = some r → ∃ g, qr = some ⟨g, 0, none⟩ ∧ X.cell? ⟨g, k, none⟩ = some (.int .i64 r) ∧ g < X.heap.size ∧ g ≠ b) := Lib.hid fun X hX k r hk => by
    obtain ⟨q, cq, e, hq⟩ := HV.out.1.open
    cases e
    have hkl := (List.getElem?_eq_some_iff.1 hk).1
    obtain ⟨g, rfl, -, hg, hgb, -, -, hcell⟩ := hq.resolve_left (fun e => by omega)
    have hbv := HV0.out.2.lt
    have hne : g ≠ b := by omega
    refine ⟨g, rfl, (hX.cell hg hne).trans ?_, Nat.lt_of_lt_of_le hg hX.size, hne⟩
    rw [hcell k hkl]
    simp [iv, List.getD_eq_getElem?_getD, hk]
  go_wp2
  go_loopw [5] (fun a wr => ∃ (i : Nat) (own : Nat → Nat) (F : Nat → Value), a = .int .i64 i ∧ i ≤ c.length ∧ Hid (Pi W V wr b c.length own F (rows9 (fun i r => Nd c r i) L i 0))) (fun a _ => c.length - (intOf a).toNat)
  case atStart => exact ⟨0, _, _, rfl, Nat.zero_le _, HP⟩
  case round =>
    clear HP
    obtain ⟨wo, rfl⟩ : ∃ wo : World, wo = wr := ⟨_, rfl⟩
    obtain ⟨i, own, F, rfl, hi, HR⟩ := hrel
    by_cases hlt : i < c.length
    · go_wp2
      go_loopw [6] (fun a wr => ∃ (k : Nat) (own : Nat → Nat) (F : Nat → Value), a = .int .i64 k ∧ k ≤ L.length ∧ Hid (Pi W V wr b c.length own F (rows9 (fun i r => Nd c r i) L i k))) (fun a _ => L.length - (intOf a).toNat)
      case atStart => exact ⟨0, own, F, rfl, Nat.zero_le _, HR⟩
      case round =>
        obtain ⟨wi, rfl⟩ : ∃ wo : World, wo = wr := ⟨_, rfl⟩
        obtain ⟨k, own, F, rfl, hk, HK⟩ := hrel
        by_cases hkl : k < L.length
        · obtain ⟨r, hr⟩ : ∃ r, L[k]? = some r := ⟨_, List.getElem?_eq_getElem hkl⟩
          have HRr := Lib.hid hr
          obtain ⟨gr, eqr, ir, hgr, hgb⟩ := HRV.out wi HK.out.ch k r hr
          subst eqr
          have HNd := Lib.hid (needed_c (cap := cap) (Lib.hid (hc.out.stay HK.out.bel)) (Nat.le_trans hn (by decide)) hlt r)
          clear hr
          go_upto_region 10 with (go_at_call 32; ((with_reducible refine HNd.out.mono ?_); rintro e5 w5 ⟨tb, rfl, htb, hb5⟩; have H5 := Lib.hid (And.intro htb hb5); clear htb hb5))
          have HS5 := Lib.hid (HK.out.stay H5.out.2)
          clear ir HNd
          cases tb with
          | false =>
            have HE := Lib.hid (rows9_no (T := fun i r => Nd c r i) (i := i) HRr.out fun h => by have := H5.out.1.2 h; cases this)
            go_wp2
            go_roundw
            case rel => exact ⟨k + 1, own, F, by go_num, by omega, Lib.hid ((HS5.out.to fun t _ => (HE.out t).symm).like rfl rfl rfl rfl)⟩
            case measure => (simp [intOf]; try omega)
          | true =>
            have HE := Lib.hid (rows9_yes (T := fun i r => Nd c r i) (i := i) HRr.out (H5.out.1.1 rfl))
            obtain ⟨g', e', ir, hgr5, -⟩ := HRV.out w5 HS5.out.ch k r HRr.out
            cases e'
            have iF := HS5.out.wt.fv.cell hlt
            have fF := HS5.out.wt.fv.frozen i
            obtain ⟨pF, cF, eF, -⟩ := (HS5.out.wt.rw i hlt).open
            have hgF := HS5.out.wt.rw i hlt
            rw [eF] at iF hgF
            have HEF := Lib.hid eF
            have hpl := rows9_len (fun i r => Nd c r i) L i k i
            obtain ⟨R, hR⟩ : ∃ R, rows9 (fun i r => Nd c r i) L i k i = R := ⟨_, rfl⟩
            simp only [hR] at iF hgF hpl HEF
            have HGF := Lib.hid hgF
            have HRq := Lib.hid hR
            have hbi := HS5.out.wt.fv.lt
            have hsb := HS5.out.ch.size
            have hby : ∀ X v', Apd w5 X (.slice pF R.length cF) v' → X.cell? ⟨b, i, none⟩ = some (.slice pF R.length cF) ∧ X.frozen? ⟨b, i, none⟩ = false ∧ b < X.heap.size := fun X v' hX => by
              have h := HS5.out.wt.fv.ch hX.1 fun e => by
                have h1 := (hgF.lt _ e).1
                have h2 := HS5.out.g.2
                omega
              exact ⟨(h.cell hlt).trans (congrArg some HEF.out), h.frozen i, h.lt⟩
            have HBy := Lib.hid hby
            obtain ⟨j0, hj0, hy0, hy1, hy2⟩ := info_parts info_int
            have HNX8 : Hid (∀ (w8 : World) (gg cap8 : Nat), Apd w5 w8 (.slice pF R.length cF) (.slice (some ⟨gg, 0, none⟩) (R.length + 1) cap8) → GV 3 V.heap.size w8 (.slice (some ⟨gg, 0, none⟩) (R.length + 1) cap8) (R.length + 1) (upd (ivl R) R.length (.int .i64 r)) →
                Pi W V (w8.setCell ⟨b, i, none⟩ (.slice (some ⟨gg, 0, none⟩) (R.length + 1) cap8)) b c.length (tag own w5.heap.size (10 + i)) (upd F i (.slice (some ⟨gg, 0, none⟩) (R.length + 1) cap8)) (rows9 (fun i r => Nd c r i) L i (k + 1))) := Lib.hid fun w8 gg cap8 hA hG => by
              rw [← HEF.out] at hA
              have := HS5.out.app (u := r) hlt hA (by rw [HRq.out]; exact hG)
              exact this.to fun t _ => (HE.out t).symm
            clear hgF eF hR hby
            go_upto_region 11 with (fail)
            go_region_law (refine step_append_lies _ (by rfl) _ _ _ (by rfl) V.heap.size 3 j0 _ 1 8 Tryd.underlying36 hj0 hy0 hy1 hy2 rfl (by decide) (.slice pF R.length cF) R.length (rw_ R.length (ivl R)) (by rfl) (World.ownsRow.alloc (HGF.out.of_heap fun _ _ => rfl) _) ⟨_, 0, none⟩ 1 1 [.int .i64 r] (by rfl) (by rfl) (World.news_of_block (heap_alloc_new _ _)) (fun u hu => by simp at hu; subst hu; rfl) (by decide) (by unfold maxLen; omega) (by omega) (by simp; omega) _ rfl ?_; intro gg cap8 w8 hown8 hgrow8 hor8 hlt8; have hA8 : Apd w5 w8 (.slice pF R.length cF) (.slice (some ⟨gg, 0, none⟩) (R.length + 1) cap8) := apd_like9 (W := w5.drew) rfl rfl rfl rfl (apd_of hgrow8 (hor8.elim (fun h => .inl h.symm) (fun h => .inr (congrArg some h)))); have HG8 : Hid (GV 3 V.heap.size w8 (.slice (some ⟨gg, 0, none⟩) (R.length + 1) cap8) (R.length + 1) (upd (ivl R) R.length (.int .i64 r))) := Lib.hid (GV.more hown8); obtain ⟨c8, f8, l8⟩ := HBy.out w8 _ hA8; have HA8 := Lib.hid hA8; clear hown8 hgrow8 hor8 hlt8 hA8)
            all_goals
              go_wp2
              go_roundw
              case rel => exact ⟨k + 1, _, _, by go_num, by omega, Lib.hid ((HNX8.out w8 gg cap8 HA8.out HG8.out).like rfl rfl rfl rfl)⟩
              case measure => (simp [intOf]; try omega)
        · obtain rfl : k = L.length := by omega
          go_wp2
          go_roundw
          case rel => exact ⟨i + 1, own, F, by go_num, by omega, Lib.hid ((HK.out.to fun t _ => rows9_next t).like rfl rfl rfl rfl)⟩
          case measure => (simp [intOf]; try omega)
    · obtain rfl : i = c.length := by omega
      go_wp2
      go_ret
      refine ⟨_, rfl, fun X hX => ⟨_, _, F, rfl, (HR.out.wt.fv.of_heap (hX.2 b HR.out.g.1 HR.out.wt.fv.lt)).rv, fun t ht => ?_⟩, HR.out.bel⟩
      obtain ⟨q, cq, e, h, _⟩ := ((HR.out.wt.rw t ht).of_heap (fun g e => hX.2 g (by have := ((HR.out.wt.rw t ht).lt g e).1; have := HR.out.g; omega) ((HR.out.wt.rw t ht).lt g e).2)).rv
      have er : rows9 (fun i r => Nd c r i) L c.length 0 t = sel (fun r => Nd c r t) L L.length := if_pos ht
      rw [er] at e h
      exact ⟨_, ⟨q, cq, e, h⟩, by have := sel_len (fun r => Nd c r t) L L.length; omega, sel_up HV.out.2.1.up, fun r => (sel_mem r).trans ⟨fun h => h.2, fun h => ⟨(HV.out.2.1.rg r).2 h.rg, h⟩⟩⟩
end Go.Proofs.YthodpkcjdbkdnaaDoor
namespace Go.Proofs.YthodpkcjdbkdnaaDoor
open Go Go.RowKit Gm

/-- The rising row of what holds. -/
def IsRow (T : Int → Prop) (l : List Int) : Prop := l.Pairwise (· < ·) ∧ ∀ t, t ∈ l ↔ T t
/-- Two rising rows of the same numbers are one. -/
theorem up_sameI {l k : List Int} (hl : l.Pairwise (· < ·)) (hk : k.Pairwise (· < ·)) (h : ∀ t, t ∈ l ↔ t ∈ k) : l = k := by
  induction l generalizing k with
  | nil =>
    cases k with
    | nil => rfl
    | cons b k => exact absurd ((h b).2 (by simp)) (by simp)
  | cons a l ih =>
    cases k with
    | nil => exact absurd ((h a).1 (by simp)) (by simp)
    | cons b k =>
      obtain ⟨a1, a2⟩ := List.pairwise_cons.1 hl
      obtain ⟨b1, b2⟩ := List.pairwise_cons.1 hk
      have hab : a = b := by
        rcases List.mem_cons.1 ((h a).1 (by simp)) with e | e
        · exact e
        · rcases List.mem_cons.1 ((h b).2 (by simp)) with e2 | e2
          · exact e2.symm
          · have := b1 a e
            have := a1 b e2
            omega
      subst hab
      rw [ih a2 b2 fun t => ?_]
      constructor
      · intro ht
        rcases List.mem_cons.1 ((h t).1 (by simp [ht])) with e | e
        · have := a1 t ht; omega
        · exact e
      · intro ht
        rcases List.mem_cons.1 ((h t).2 (by simp [ht])) with e | e
        · have := b1 t ht; omega
        · exact e
theorem IsRow.one {T : Int → Prop} {l k : List Int} (h : IsRow T l) (g : IsRow T k) : l = k := up_sameI h.1 g.1 fun t => (h.2 t).trans (g.2 t).symm
/-- The greatest number of the first ones. -/
def MostOf (c : List Ic) (i m : Nat) : Prop := (∀ j l, j < i → IsRow (fun r => Nd c r j) l → l.length ≤ m) ∧ (m = 0 ∨ ∃ j l, j < i ∧ IsRow (fun r => Nd c r j) l ∧ l.length = m)
section
variable {c : List Ic} {i m m' : Nat} {l : List Int}
theorem MostOf.zero (c : List Ic) : MostOf c 0 0 := ⟨fun _ _ h => absurd h (Nat.not_lt_zero _), .inl rfl⟩
theorem MostOf.next (h : MostOf c i m) (hl : IsRow (fun r => Nd c r i) l) : MostOf c (i + 1) (max m l.length) := by
  refine ⟨fun j k hj hk => ?_, ?_⟩
  · by_cases e : j = i
    · subst e
      rw [hk.one hl]
      omega
    · have := h.1 j k (by omega) hk
      omega
  · by_cases e : m < l.length
    · exact .inr ⟨i, l, by omega, hl, by omega⟩
    · rcases h.2 with h0 | ⟨j, k, a, b, d⟩
      · exact .inl (by omega)
      · exact .inr ⟨j, k, by omega, b, by omega⟩
theorem MostOf.one (h : MostOf c i m) (g : MostOf c i m') : m = m' := by
  have key : ∀ {a b : Nat}, MostOf c i a → MostOf c i b → a ≤ b := fun h g => by
    rcases h.2 with h0 | ⟨j, k, a, b, d⟩
    · omega
    · have := g.1 j k a b
      omega
  exact Nat.le_antisymm (key h g) (key g h)
end
set_option maxRecDepth 100000 in
set_option maxHeartbeats 4000000 in
theorem most_c {W : World} {p : Option Addr} {cap : Nat} {c : List Ic} (hc : Hid (CodeAt W p c)) (hn : c.length ≤ 100000) : Calls Tryd.prog 17 #[.slice p c.length cap] W fun e w' => ∃ m : Nat, e = .returned (.int .i64 m) ∧ MostOf c c.length m ∧ Below W.heap.size W w' := by
  go_enter Tryd.func17, Tryd.ntmps17
  go_upto_region 3 with (go_at_call 13; ((with_reducible refine (ahead_c hc hn).mono ?_); rintro e0 V ⟨v0, rfl, ha, hbl⟩; obtain ⟨pa, ca, S, rfl, h1, h2⟩ := ha V (Kp.refl _ _); have HV := Lib.hid (And.intro h1 (And.intro h2 hbl)); clear ha h1 h2 hbl))
  go_wp2
  go_loopw [3, 5] (fun a3 a5 wr => ∃ (i m : Nat), a3 = .int .i64 m ∧ a5 = .int .i64 i ∧ i ≤ c.length ∧ m ≤ 1000000 ∧ Hid (Below V.heap.size V wr ∧ MostOf c i m)) (fun _ a5 _ => c.length - (intOf a5).toNat)
  case atStart => exact ⟨0, 0, rfl, rfl, Nat.zero_le _, by omega, Lib.hid ⟨Below.refl _ _, MostOf.zero c⟩⟩
  case round =>
    obtain ⟨wo, rfl⟩ : ∃ wo : World, wo = wr := ⟨_, rfl⟩
    obtain ⟨i, m, rfl, rfl, hi, hm, HR⟩ := hrel
    by_cases hlt : i < c.length
    · obtain ⟨ga, oa, ea, hga, iA⟩ := HV.out.1 i hlt
      subst ea
      have iA5 := (HR.out.1.cell (p := ⟨ga, oa + i, none⟩) hga).trans iA
      obtain ⟨la, ⟨pl, cl, el, -⟩, hl1, hl2, hl3⟩ := HV.out.2.1 i hlt
      rw [el] at iA5
      have HN := Lib.hid (HR.out.2.next ⟨hl2, hl3⟩)
      clear hl2 hl3 el iA
      have hmx : (max m la.length : Int) = ((max m la.length : Nat) : Int) := by omega
      go_wp2
      go_roundw
      case rel => exact ⟨i + 1, max m la.length, by first | rfl | (rw [← hmx]) | (simp; try omega), by go_num, by omega, by omega, Lib.hid ⟨below_like HR.out.1 rfl rfl rfl rfl, HN.out⟩⟩
      case measure => (simp [intOf]; try omega)
    · obtain rfl : i = c.length := by omega
      go_wp2
      go_ret
      exact ⟨m, rfl, HR.out.2, HV.out.2.2.trans (HR.out.1.mono HV.out.2.2.size)⟩
end Go.Proofs.YthodpkcjdbkdnaaDoor
