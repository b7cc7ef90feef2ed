/- Lemmas for the laws of live (Lbm Lbw): each says its own conditions. -/
import Derived.Test.YthodpkcjdbkdnaaDoorJ08
import Derived.Test.YthodpkcjdbkdnaaDoorJ03
set_option linter.unusedSimpArgs false
set_option linter.unusedVariables false
namespace Go.Proofs.YthodpkcjdbkdnaaDoor
open Go Go.RowKit Gm

def shI (m : Nat) (x : Ic) : Ic := { x with t := if x.t < 0 then -1 else x.t + (m : Int) }
def setI (r : Int) : Ic := ⟨0, 0, r, 0, 0, 0, 0⟩
def putS (l : List Int) (c : List Ic) : List Ic := l.map setI ++ c.map (shI l.length)
theorem shI_uses (m : Nat) (x : Ic) : usesM (shI m x) = usesM x := rfl
theorem shI_def (m : Nat) (x : Ic) : defM (shI m x) = defM x := rfl
theorem setI_uses (r : Int) : usesM (setI r) = [] := by
  show (if (0 : Int) ≤ 0 ∧ (0 : Int) ≤ 13 then pos (srt [-1, -1, -1]) else []) = []
  decide
theorem setI_def (r : Int) : defM (setI r) = r := by
  show (if (0 : Int) ≤ 0 ∧ (0 : Int) ≤ 13 then (if hasB 0 1 then r else -1) else -1) = r
  rw [if_pos (by decide), if_pos (by decide)]
/-- Where an instruction goes on. -/
def Nx (x : Ic) (p v : Int) : Prop := (0 ≤ x.k ∧ x.k ≤ 13) ∧ ((hasB x.k.toNat 10 = true ∧ v = x.t) ∨ (ens x.k.toNat = false ∧ v = p + 1))
theorem mem_next {x : Ic} {p v : Int} : v ∈ nextM x p ↔ Nx x p v := by
  unfold nextM Nx
  by_cases hk : 0 ≤ x.k ∧ x.k ≤ 13
  · rw [if_pos hk]
    by_cases hb : hasB x.k.toNat 10 = true
    · rw [if_pos hb]
      by_cases he : ens x.k.toNat = true
      · rw [if_pos he, mem_srt]
        simp [hk, hb, he]
      · rw [if_neg he, mem_srt]
        have he' : ens x.k.toNat = false := by simpa using he
        simp [hk, hb, he']
        exact Or.comm
    · rw [if_neg hb]
      have hb' : hasB x.k.toNat 10 = false := by simpa using hb
      by_cases he : ens x.k.toNat = true
      · rw [if_pos he]
        simp [hb', he]
      · rw [if_neg he, mem_srt]
        have he' : ens x.k.toNat = false := by simpa using he
        simp [hk, hb', he']
  · rw [if_neg hk]
    simp only [List.not_mem_nil, false_iff]
    exact fun h => hk h.1
theorem mem_outs {c : List Ic} {i j : Nat} : j ∈ outs c i ↔ j < c.length ∧ ∃ x, c[i]? = some x ∧ Nx x i j := by
  unfold outs
  cases hx : c[i]? with
  | none => simp
  | some x =>
    simp only [List.mem_map, List.mem_filter, Bool.and_eq_true, decide_eq_true_eq, mem_next]
    constructor
    · rintro ⟨z, ⟨h, h0, h1⟩, rfl⟩
      rw [show ((z.toNat : Nat) : Int) = z by omega]
      exact ⟨by omega, x, rfl, h⟩
    · rintro ⟨h1, y, e, h⟩
      cases e
      exact ⟨(j : Int), ⟨h, by omega, by omega⟩, by omega⟩
section
variable {l : List Int} {c : List Ic} {r : Int} {i j k : Nat}
theorem putS_hi (l : List Int) (c : List Ic) (i : Nat) : (putS l c)[l.length + i]? = (c[i]?).map (shI l.length) := by
  unfold putS
  rw [List.getElem?_append_right (by simp), List.getElem?_map, List.length_map, Nat.add_sub_cancel_left]
theorem putS_lo (h : k < l.length) : (putS l c)[k]? = some (setI (l.getD k 0)) := by
  unfold putS
  rw [List.getElem?_append_left (by simpa using h), List.getElem?_map, List.getD_eq_getElem?_getD, List.getElem?_eq_getElem h]
  rfl
theorem putS_len : (putS l c).length = l.length + c.length := by simp [putS]
theorem nx_sh {x : Ic} {m : Nat} {v : Int} (hv : 0 ≤ v) : Nx (shI m x) ((m + i : Nat) : Int) v ↔ ∃ j : Nat, v = ((m + j : Nat) : Int) ∧ Nx x i j := by
  unfold Nx
  show ((0 ≤ x.k ∧ x.k ≤ 13) ∧ ((hasB x.k.toNat 10 = true ∧ v = if x.t < 0 then -1 else x.t + (m : Int)) ∨ (ens x.k.toNat = false ∧ v = ((m + i : Nat) : Int) + 1))) ↔ _
  constructor
  · rintro ⟨hk, ⟨hb, e⟩ | ⟨he, e⟩⟩
    · by_cases ht : x.t < 0
      · rw [if_pos ht] at e; omega
      · rw [if_neg ht] at e
        exact ⟨x.t.toNat, by omega, hk, .inl ⟨hb, by omega⟩⟩
    · exact ⟨i + 1, by omega, hk, .inr ⟨he, by omega⟩⟩
  · rintro ⟨j, e, hk, ⟨hb, h⟩ | ⟨he, h⟩⟩
    · exact ⟨hk, .inl ⟨hb, by rw [if_neg (by omega)]; omega⟩⟩
    · exact ⟨hk, .inr ⟨he, by omega⟩⟩
theorem outs_hi {y : Nat} : y ∈ outs (putS l c) (l.length + i) ↔ ∃ j, y = l.length + j ∧ j ∈ outs c i := by
  rw [mem_outs, putS_len, putS_hi]
  constructor
  · rintro ⟨h1, x', e, h⟩
    obtain ⟨x, hx, rfl⟩ := Option.map_eq_some_iff.1 e
    obtain ⟨j, e2, h2⟩ := (nx_sh (by omega)).1 h
    exact ⟨j, by omega, mem_outs.2 ⟨by omega, x, hx, h2⟩⟩
  · rintro ⟨j, rfl, h⟩
    obtain ⟨h1, x, hx, h2⟩ := mem_outs.1 h
    exact ⟨by omega, shI l.length x, by rw [hx]; rfl, (nx_sh (by omega)).2 ⟨j, rfl, h2⟩⟩
theorem nd_hi : Nd (putS l c) r (l.length + i) ↔ Nd c r i := by
  constructor
  · intro h
    refine Nd.least (P := fun s => ∀ i, s = l.length + i → Nd c r i) h ?_ ?_ i rfl
    · rintro s x' h0 hr i rfl
      rw [putS_hi] at h0
      obtain ⟨x, hx, rfl⟩ := Option.map_eq_some_iff.1 h0
      exact .use hx hr
    · rintro s x' j h0 hd hj ih i rfl
      rw [putS_hi] at h0
      obtain ⟨x, hx, rfl⟩ := Option.map_eq_some_iff.1 h0
      obtain ⟨j', rfl, hj'⟩ := outs_hi.1 hj
      exact .on hx hd hj' (ih j' rfl)
  · intro h
    induction h with
    | use hx hr => exact .use (x := shI l.length _) (by rw [putS_hi, hx]; rfl) hr
    | on hx hd hj _ ih => exact .on (x := shI l.length _) (by rw [putS_hi, hx]; rfl) hd (outs_hi.2 ⟨_, rfl, hj⟩) ih
theorem nd_lo (hk : k < l.length) (h : Nd (putS l c) r k) : l.getD k 0 ≠ r ∧ Nd (putS l c) r (k + 1) := by
  rw [Nd.iff (putS_lo hk), setI_uses, setI_def] at h
  rcases h with h | ⟨h1, j, hj, h2⟩
  · cases h
  · refine ⟨h1, ?_⟩
    obtain ⟨_, x, hx, -, h3⟩ := mem_outs.1 hj
    rw [putS_lo hk] at hx
    cases hx
    rcases h3 with ⟨h3, -⟩ | ⟨-, h3⟩
    · exact absurd (show hasB 0 10 = true from h3) (by decide)
    · rw [show k + 1 = j by omega]
      exact h2
theorem nd_lo_all (h : Nd (putS l c) r 0) : ∀ k, k ≤ l.length → Nd (putS l c) r k ∧ ∀ j, j < k → l.getD j 0 ≠ r
  | 0, _ => ⟨h, fun j hj => absurd hj (Nat.not_lt_zero _)⟩
  | k + 1, hk => by
    obtain ⟨h1, h2⟩ := nd_lo_all h k (by omega)
    obtain ⟨h3, h4⟩ := nd_lo (by omega) h1
    refine ⟨h4, fun j hj => ?_⟩
    by_cases e : j = k
    · rw [e]; exact h3
    · exact h2 j (by omega)
/-- Nothing is needed ahead of the first place. -/
theorem nd_first (hl : RgI c c.length l) : ¬ Nd (putS l c) r 0 := fun h => by
  obtain ⟨h1, h2⟩ := nd_lo_all h l.length (Nat.le_refl _)
  have hr : r ∈ l := (hl.rg r).2 ((nd_hi (i := 0)).1 h1).rg
  obtain ⟨j, hj, e⟩ := ivl_of hr
  exact h2 j hj e
theorem putS_sm (hs : Sm c) (hl : RgI c c.length l) : Sm (putS l c) := fun i x hx => by
  rcases Nat.lt_or_ge i l.length with h | h
  · rw [putS_lo h] at hx
    cases hx
    have := rg_sm hs ((hl.rg _).1 (ivl_in h))
    exact ⟨this.2, by show (0 : Int) < 64; omega, by show (0 : Int) < 64; omega⟩
  · obtain ⟨k, rfl⟩ : ∃ k, i = l.length + k := ⟨i - l.length, by omega⟩
    rw [putS_hi] at hx
    obtain ⟨y, hy, rfl⟩ := Option.map_eq_some_iff.1 hx
    exact hs k y hy
end
theorem setI_ok {r : Int} (h : 0 ≤ r ∧ r < 64) : Ok6 (setI r) := by
  simp only [Ok6, In6, setI]
  omega
theorem shI_ok {m : Nat} {x : Ic} (hm : m ≤ 1000) (h : Ok6 x) (ht : x.t ≤ 1000) : Ok6 (shI m x) := by
  obtain ⟨h1, h2, h3, h4, h5, h6, h7⟩ := h
  refine ⟨h1, h2, h3, h4, h5, h6, ?_⟩
  simp only [In6, shI] at h7 ⊢
  split <;> omega
/-- A row of instructions in memory of its own. -/
def ict (x : Ic) : List Value := [.int .i64 x.k, .int .i64 x.o, .int .i64 x.d, .int .i64 x.a, .int .i64 x.b, .int .i64 x.n, .int .i64 x.t]
def R7 (B : Nat) (W : World) (v : Value) (L : List Ic) : Prop := W.ownsRow B 39 7 v L.length (L.flatMap ict)
theorem ict_get : ∀ (L : List Ic) (i j : Nat) (x : Ic) (u : Value), L[i]? = some x → (ict x)[j]? = some u → (L.flatMap ict)[i * 7 + j]? = some u
  | [], _, _, _, _, h, _ => by simp at h
  | y :: L, 0, j, x, u, h, hu => by
    have : y = x := by simpa using h
    subst this
    rw [List.flatMap_cons, List.getElem?_append_left (by have := (List.getElem?_eq_some_iff.1 hu).1; omega)]
    simpa using hu
  | y :: L, i + 1, j, x, u, h, hu => by
    have := ict_get L i j x u (by simpa using h) hu
    rw [List.flatMap_cons, List.getElem?_append_right (by simp [ict]; omega)]
    rw [show (i + 1) * 7 + j - (ict y).length = i * 7 + j by simp [ict]; omega]
    exact this
section
variable {B : Nat} {W X : World} {v : Value} {L : List Ic}
theorem R7.nil (B : Nat) (W : World) : R7 B W (.slice none 0 0) [] := World.ownsRow_nil W B _ _
theorem R7.lt (h : R7 B W v L) : ∀ g, v.ownBlock = some g → B ≤ g ∧ g < W.heap.size := World.ownsRow.lt h
theorem R7.open (h : R7 B W v L) : ∃ p cap, v = .slice p L.length cap ∧ ∀ i x, L[i]? = some x → ∃ g, p = some ⟨g, 0, none⟩ ∧ g < W.heap.size ∧ At7 W g (0 + i * 7) x := by
  rcases h.2 with ⟨rfl, h0⟩ | ⟨g, cap, cur, rfl, hB, hg, hc, _, _, ht⟩
  · refine ⟨none, 0, by rw [h0], fun i x hx => ?_⟩
    have := (List.getElem?_eq_some_iff.1 hx).1
    omega
  · refine ⟨_, cap, rfl, fun i x hx => ⟨g, rfl, (Array.getElem?_eq_some_iff.1 hg).1, ?_⟩⟩
    have hi := (List.getElem?_eq_some_iff.1 hx).1
    have key : ∀ j u, j < 7 → (ict x)[j]? = some u → W.cell? ⟨g, 0 + i * 7 + j, none⟩ = some u := fun j u hj hu => by
      rw [Nat.zero_add, cell_of_row W g _ cur _ _ hg]
      have h1 := congrArg (·[i * 7 + j]?) ht
      simp only [List.getElem?_take] at h1
      rw [if_pos (by omega), ict_get L i j x u hx hu] at h1
      simpa using h1
    exact ⟨key 0 _ (by omega) rfl, key 1 _ (by omega) rfl, key 2 _ (by omega) rfl, key 3 _ (by omega) rfl, key 4 _ (by omega) rfl, key 5 _ (by omega) rfl, key 6 _ (by omega) rfl⟩
theorem R7.code (h : R7 B W v L) (hok : ∀ x, x ∈ L → Ok6 x) : ∃ p cap, v = .slice p L.length cap ∧ CodeAt W p L := by
  obtain ⟨p, cap, e, h1⟩ := h.open
  refine ⟨p, cap, e, fun i x hx => ?_⟩
  obtain ⟨g, e1, h2, h3⟩ := h1 i x hx
  exact ⟨g, 0, e1, h2, h3, hok x (List.mem_of_getElem? hx)⟩
theorem R7.of_heap (h : R7 B W v L) (e : ∀ g, v.ownBlock = some g → X.heap[g]? = W.heap[g]?) : R7 B X v L := by
  refine ⟨h.1, ?_⟩
  rcases h.2 with h0 | ⟨g, cap, cur, rfl, hB, hg, r⟩
  · exact .inl h0
  · exact .inr ⟨g, cap, cur, rfl, hB, (e g rfl).trans hg, r⟩
theorem R7.stay (h : R7 B W v L) (hb : Below W.heap.size W X) : R7 B X v L := h.of_heap fun g e => hb.block g (h.lt g e).2
theorem R7.more {x : Ic} (h : W.ownsRow B 39 7 v (L.length + 1) (L.flatMap ict ++ ict x)) : R7 B W v (L ++ [x]) := by
  unfold R7
  rw [List.length_append, List.flatMap_append, List.flatMap_singleton]
  exact h
end
theorem info_ins : (Tryd.prog.info? 39).map (fun i => (i.zero, i.size, i.bytes)) = some (some (.agg #[.int .i64 0, .int .i64 0, .int .i64 0, .int .i64 0, .int .i64 0, .int .i64 0, .int .i64 0]), 7, 56) := by kernel_rfl
end Go.Proofs.YthodpkcjdbkdnaaDoor
namespace Go.Proofs.YthodpkcjdbkdnaaDoor
open Go Go.RowKit Gm

theorem below_set {B : Nat} {W X : World} (h : Below B W X) {m : Nat} (hm : B ≤ m) (o : Nat) (v : Value) : Below B W (X.setCell ⟨m, o, none⟩ v) :=
  ⟨h.os, h.tape, h.output, by simp [World.setCell]; exact h.size, fun k hk => by rw [heap_setCell_other X ⟨m, o, none⟩ k v (by show k ≠ m; omega)]; exact h.block k hk⟩
theorem R7.setO {B m o : Nat} {W : World} {v u : Value} {L : List Ic} (h : R7 B W v L) (hn : v.ownBlock ≠ some m) : R7 B (W.setCell ⟨m, o, none⟩ u) v L := h.of_heap fun g e => heap_setCell_other W ⟨m, o, none⟩ g u (fun e2 : g = m => hn (by rw [e, e2]))
theorem take_setI {l : List Int} {k : Nat} (hk : k < l.length) : (l.take (k + 1)).map setI = (l.take k).map setI ++ [setI (l.getD k 0)] := by
  rw [List.take_add_one, List.map_append, List.getD_eq_getElem?_getD, List.getElem?_eq_getElem hk]
  rfl
theorem take_shI {c : List Ic} {m i : Nat} {x : Ic} (hx : c[i]? = some x) : (c.take (i + 1)).map (shI m) = (c.take i).map (shI m) ++ [shI m x] := by
  rw [List.take_add_one, List.map_append, hx]
  rfl
theorem lv_one {la lb : List Nat} (h : ∀ r : Int, r ∈ la.map Int.ofNat ↔ r ∈ lb.map Int.ofNat) (ha : (la.map Int.ofNat).Pairwise (· < ·)) (hb : (lb.map Int.ofNat).Pairwise (· < ·)) : la = lb := by
  have h3 := congrArg (List.map Int.toNat) (up_sameI ha hb h)
  rw [List.map_map, List.map_map] at h3
  have h4 : ∀ l : List Nat, l.map (Int.toNat ∘ Int.ofNat) = l := fun l => by
    conv => rhs; rw [← List.map_id l]
    exact List.map_congr_left fun x _ => rfl
  rwa [h4, h4] at h3
set_option maxRecDepth 100000 in
set_option maxHeartbeats 8000000 in
theorem begins_c {W : World} {p : Option Addr} {cap : Nat} {c : List Ic} (hc : Hid (CodeAt W p c)) (E : Hid (En W)) (hn : c.length ≤ 9223372036854775807) : Calls Tryd.prog 5 #[.slice p c.length cap] W (TrueP W) := by
  obtain ⟨i0, hi0, hz0, hz1, hz2⟩ := info_parts info_ins
  have HAW := Lib.hid (awake_c E)
  go_enter Tryd.func5, Tryd.ntmps5
  go_upto_region 4 with (go_at_call 7; (with_reducible refine HAW.out.mono ?_); rintro e1 w1 ⟨rfl, hb1⟩; have HB1 := Lib.hid hb1; have HSM := Lib.hid (small_c (cap := cap) (Lib.hid (hc.out.stay hb1)) hn); clear hb1)
  go_upto_region 5 with (go_at_call 8; (with_reducible refine HSM.out.mono ?_); rintro e2 w2 ⟨bb, rfl, hbb, hb2⟩; have HB2 := Lib.hid (And.intro hbb hb2); clear hbb hb2)
  have h2 : Below W.heap.size W w2 := HB1.out.trans (HB2.out.2.mono HB1.out.size)
  have H2 := Lib.hid h2
  have HC2 := Lib.hid (hc.out.stay h2)
  have HE2 := Lib.hid (E.out.below h2)
  clear h2
  cases bb with
  | false =>
    go_wp2
    go_ret
    exact ⟨rfl, H2.out⟩
  | true =>
    obtain ⟨hsm, h30⟩ := HB2.out.1 rfl
    have HS := Lib.hid hsm
    clear hsm
    by_cases h20 : 20 < c.length
    · go_wp2
      go_ret
      exact ⟨rfl, H2.out⟩
    · have HRG := Lib.hid (regs_c (cap := cap) HC2 (by omega))
      clear HSM HAW HB1
      go_upto_region 9 with (go_at_call 22; (with_reducible refine HRG.out.mono ?_); rintro e3 w3 ⟨v3, l, rfl, hr3, hg3, hb3⟩; obtain ⟨pl, cl, rfl, hv3, -⟩ := GV.rv hr3.gv; have HV3 : Hid (RV w3 pl l.length (ivl l)) := Lib.hid hv3; have HG3 := Lib.hid hg3; have hll := hg3.len; have HB3 := Lib.hid hb3; clear hr3 hv3 hg3 hb3)
      have HC3 := Lib.hid (HC2.out.stay HB3.out)
      have HE3 := Lib.hid (HE2.out.below HB3.out)
      have H3 : Hid (Below W.heap.size W w3) := Lib.hid (H2.out.trans (HB3.out.mono H2.out.size))
      clear HRG HB2 HC2 HE2 HB3
      go_upto_region 10 with (fail)
      go_loopw [6, 7] (fun a6 a7 wr => ∃ (k : Nat) (v : Value) (D : List Ic), a6 = v ∧ a7 = .int .i64 k ∧ k ≤ l.length ∧ Hid (Below w3.heap.size w3 wr ∧ R7 w3.heap.size wr v D ∧ D = (l.take k).map setI)) (fun _ a7 _ => l.length - (intOf a7).toNat)
      case atStart => exact ⟨0, _, [], rfl, rfl, Nat.zero_le _, Lib.hid ⟨Below.refl _ _, R7.nil _ _, rfl⟩⟩
      case round =>
        obtain ⟨wi, rfl⟩ : ∃ wo : World, wo = wr := ⟨_, rfl⟩
        obtain ⟨k, v, D, rfl, rfl, hk, HR⟩ := hrel
        have HDL : Hid (D.length = k) := Lib.hid (by rw [HR.out.2.2, List.length_map, List.length_take]; omega)
        by_cases hlt : k < l.length
        · obtain ⟨q, cq, ev, -⟩ := HR.out.2.1.open
          subst ev
          obtain ⟨gl, ol, rfl, hgl, il⟩ := (HV3.out.stay HR.out.1) k hlt
          simp only [ivl] at il
          obtain ⟨z, hz⟩ : ∃ z, l.getD k 0 = z := ⟨_, rfl⟩
          rw [hz] at il
          have HZ := Lib.hid hz
          clear hz
          have hVi : w3.heap.size ≤ wi.heap.size := HR.out.1.size
          go_wp2_with (at_builtin; refine wpList_append_own_at _ rfl _ _ 44 rfl w3.heap.size 39 i0 _ 7 56 Tryd.underlying44 hi0 hz0 hz1 hz2 rfl (by decide) (.slice q D.length cq) D.length (D.flatMap ict) rfl (World.ownsRow.alloc HR.out.2.1 _) ⟨wi.heap.size, 0, none⟩ 1 1 (ict (setI z)) rfl rfl ?c1 ?c2 ?c3 ?c4 ?c5 ?_)
          case c1 => first | exact World.news_of_block (heap_alloc_new _ _) | (intro j u h; exact h)
          case c2 => intro y hy; simp [ict] at hy; rcases hy with rfl | rfl | rfl | rfl | rfl | rfl | rfl <;> rfl
          case c3 => have := HDL.out; unfold maxLen; omega
          case c4 => have := HDL.out; omega
          case c5 => have := HDL.out; first | omega | (simp; omega)
          intro v4 w4 hown hgrow _ hats
          have HG4 := Lib.hid (R7.more (x := setI z) hown)
          have HB4 : Hid (Below w3.heap.size w3 w4) := Lib.hid ((HR.out.1.alloc (by omega) _).grown hgrow (by simp; omega) fun z e => (HR.out.2.1.lt z e).1)
          have HD : Hid (D ++ [setI z] = (l.take (k + 1)).map setI) := Lib.hid (by rw [take_setI hlt, HZ.out, HR.out.2.2])
          clear hown hgrow hats
          go_wp2
          go_roundw
          case rel => exact ⟨k + 1, v4, _, rfl, by go_num, by omega, Lib.hid ⟨HB4.out, HG4.out, HD.out⟩⟩
          case measure => (simp [intOf]; try omega)
        · obtain rfl : k = l.length := by omega
          have hD0 : D = l.map setI := by rw [HR.out.2.2, List.take_length]
          obtain ⟨q, cq, ev, -⟩ := HR.out.2.1.open
          rw [HDL.out] at ev
          subst ev
          have HD0 : Hid (Below w3.heap.size w3 wi ∧ R7 w3.heap.size wi (.slice q l.length cq) (l.map setI)) := Lib.hid (by
            have := HR.out.2.1
            rw [hD0] at this
            exact ⟨HR.out.1, this⟩)
          clear HR hD0 HDL D
          go_upto_region 15 with (fail)
          go_loopw [6, 9] (fun a6 a9 wr => ∃ (i : Nat) (v : Value) (D : List Ic), a6 = v ∧ a9 = .int .i64 i ∧ i ≤ c.length ∧ Hid (Below w3.heap.size w3 wr ∧ R7 w3.heap.size wr v D ∧ D = l.map setI ++ (c.take i).map (shI l.length) ∧ ∀ j x, j < i → c[j]? = some x → x.t ≤ 1000)) (fun _ a9 _ => c.length - (intOf a9).toNat)
          case atStart => exact ⟨0, _, _, rfl, rfl, Nat.zero_le _, Lib.hid ⟨HD0.out.1, HD0.out.2, by simp, fun j x h => absurd h (Nat.not_lt_zero _)⟩⟩
          case round =>
            obtain ⟨wo, rfl⟩ : ∃ wo : World, wo = wr := ⟨_, rfl⟩
            obtain ⟨i, v, D, rfl, rfl, hi, HR⟩ := hrel
            have HDL : Hid (D.length = l.length + i) := Lib.hid (by rw [HR.out.2.2.1, List.length_append, List.length_map, List.length_map, List.length_take]; omega)
            by_cases hlt : i < c.length
            · obtain ⟨q, cq, ev, -⟩ := HR.out.2.1.open
              subst ev
              obtain ⟨x, hx⟩ : ∃ x, c[i]? = some x := ⟨_, List.getElem?_eq_getElem hlt⟩
              obtain ⟨gc, oc, ep, hgc, hat7, hok⟩ := (HC3.out.stay HR.out.1) i x hx
              have HX := Lib.hid hx
              have k0 := hat7.k
              have k1 := hat7.o
              have k2 := hat7.d
              have k3 := hat7.a
              have k4 := hat7.b
              have k5 := hat7.n
              have k6 := hat7.t
              have HEP := Lib.hid ep
              subst ep
              clear hat7 hx hok
              go_upto_region 18 with (fail)
              refine name_world ?_
              intro V1 hV1
              obtain ⟨m, hm⟩ : ∃ m, wo.heap.size = m := ⟨_, rfl⟩
              have HI : Hid (Ib V1 m (.int .i64 x.k) (.int .i64 x.o) (.int .i64 x.d) (.int .i64 x.a) (.int .i64 x.b) (.int .i64 x.n) (.int .i64 x.t)) := Lib.hid (by rw [hV1]; exact Ib.new hm.symm _ _ _ _ _ _ _)
              have hb01 : Below wo.heap.size wo V1 := by rw [hV1]; exact below1 _ _
              have HB1 : Hid (Below w3.heap.size w3 V1) := Lib.hid (HR.out.1.trans (hb01.mono HR.out.1.size))
              have HR1 := Lib.hid (HR.out.2.1.stay hb01)
              have hm3 : w3.heap.size ≤ m := by rw [← hm]; exact HR.out.1.size
              have HNE : Hid ((Value.slice q D.length cq).ownBlock ≠ some m) := Lib.hid fun e => by have := (HR.out.2.1.lt m e).2; omega
              obtain ⟨bm, y0, y1, y2, y3, y4, y5, y6, f0, f1, f2, f3, f4, f5, f6⟩ := HI.out.facts
              try rw [hm]
              clear hV1 k0 k1 k2 k3 k4 k5 k6 hb01 f0 f1 f2 f3 f4 f5
              by_cases t1 : x.t < -1000
              · go_wp2
                go_ret
                exact ⟨rfl, H3.out.trans (HB1.out.mono H3.out.size)⟩
              · by_cases t2 : 1000 < x.t
                · go_wp2
                  go_ret
                  exact ⟨rfl, H3.out.trans (HB1.out.mono H3.out.size)⟩
                · have HT : Hid (∀ j y, j < i + 1 → c[j]? = some y → y.t ≤ 1000) := Lib.hid fun j y hj hy => by
                    by_cases e : j = i
                    · rw [e, HX.out] at hy; cases hy; omega
                    · exact HR.out.2.2.2 j y (by omega) hy
                  have HD : Hid (D ++ [shI l.length x] = l.map setI ++ (c.take (i + 1)).map (shI l.length)) := Lib.hid (by rw [take_shI HX.out, ← List.append_assoc, ← HR.out.2.2.1])
                  by_cases t3 : x.t < 0
                  · go_upto_region 23 with (fail)
                    refine name_world ?_
                    intro V2 hV2
                    have HI2 : Hid (Ib V2 m (.int .i64 x.k) (.int .i64 x.o) (.int .i64 x.d) (.int .i64 x.a) (.int .i64 x.b) (.int .i64 x.n) (.int .i64 (-1))) := Lib.hid (by rw [hV2]; exact HI.out.set6 _)
                    have HB2 : Hid (Below w3.heap.size w3 V2) := Lib.hid (by rw [hV2]; exact below_set HB1.out hm3 _ _)
                    have HR2 : Hid (R7 w3.heap.size V2 (.slice q D.length cq) D) := Lib.hid (by rw [hV2]; exact HR1.out.setO HNE.out)
                    have hIX : Hid (shI l.length x = { x with t := (-1) }) := Lib.hid (by unfold shI; rw [if_pos t3])
                    have hs2 := HB2.out.size
                    clear hV2 y0 y1 y2 y3 y4 y5 y6 f6 bm
                    obtain ⟨bm, y0, y1, y2, y3, y4, y5, y6, -⟩ := HI2.out.facts
                    go_wp2_with (at_builtin; refine wpList_append_own_at _ rfl _ _ 44 rfl w3.heap.size 39 i0 _ 7 56 Tryd.underlying44 hi0 hz0 hz1 hz2 rfl (by decide) (.slice q D.length cq) D.length (D.flatMap ict) rfl (World.ownsRow.alloc HR2.out _) ⟨V2.heap.size, 0, none⟩ 1 1 (ict { x with t := (-1) }) rfl rfl ?c1 ?c2 ?c3 ?c4 ?c5 ?_)
                    case c1 => first | exact World.news_of_block (heap_alloc_new _ _) | (intro j u h; exact h)
                    case c2 => intro y hy; simp [ict] at hy; rcases hy with rfl | rfl | rfl | rfl | rfl | rfl | rfl <;> rfl
                    case c3 => have := HDL.out; unfold maxLen; omega
                    case c4 => have := HDL.out; omega
                    case c5 => have := HDL.out; first | omega | (simp; omega)
                    intro v4 w4 hown hgrow _ hats
                    have HG4 := Lib.hid (R7.more (x := { x with t := (-1) }) hown)
                    have HB4 : Hid (Below w3.heap.size w3 w4) := Lib.hid ((HB2.out.alloc (by omega) _).grown hgrow (by simp; omega) fun z e => (HR2.out.lt z e).1)
                    clear hown hgrow hats
                    go_wp2
                    go_roundw
                    case rel => exact ⟨i + 1, v4, _, rfl, by go_num, by omega, Lib.hid ⟨HB4.out, HG4.out, by rw [← HD.out, hIX.out], HT.out⟩⟩
                    case measure => (simp [intOf]; try omega)
                  · go_upto_region 23 with (fail)
                    refine name_world ?_
                    intro V2 hV2
                    have HI2 : Hid (Ib V2 m (.int .i64 x.k) (.int .i64 x.o) (.int .i64 x.d) (.int .i64 x.a) (.int .i64 x.b) (.int .i64 x.n) (.int .i64 (x.t + (l.length : Int)))) := Lib.hid (by rw [hV2]; exact HI.out.set6 _)
                    have HB2 : Hid (Below w3.heap.size w3 V2) := Lib.hid (by rw [hV2]; exact below_set HB1.out hm3 _ _)
                    have HR2 : Hid (R7 w3.heap.size V2 (.slice q D.length cq) D) := Lib.hid (by rw [hV2]; exact HR1.out.setO HNE.out)
                    have hIX : Hid (shI l.length x = { x with t := (x.t + (l.length : Int)) }) := Lib.hid (by unfold shI; rw [if_neg t3])
                    have hs2 := HB2.out.size
                    clear hV2 y0 y1 y2 y3 y4 y5 y6 f6 bm
                    obtain ⟨bm, y0, y1, y2, y3, y4, y5, y6, -⟩ := HI2.out.facts
                    go_wp2_with (at_builtin; refine wpList_append_own_at _ rfl _ _ 44 rfl w3.heap.size 39 i0 _ 7 56 Tryd.underlying44 hi0 hz0 hz1 hz2 rfl (by decide) (.slice q D.length cq) D.length (D.flatMap ict) rfl (World.ownsRow.alloc HR2.out _) ⟨V2.heap.size, 0, none⟩ 1 1 (ict { x with t := (x.t + (l.length : Int)) }) rfl rfl ?c1 ?c2 ?c3 ?c4 ?c5 ?_)
                    case c1 => first | exact World.news_of_block (heap_alloc_new _ _) | (intro j u h; exact h)
                    case c2 => intro y hy; simp [ict] at hy; rcases hy with rfl | rfl | rfl | rfl | rfl | rfl | rfl <;> rfl
                    case c3 => have := HDL.out; unfold maxLen; omega
                    case c4 => have := HDL.out; omega
                    case c5 => have := HDL.out; first | omega | (simp; omega)
                    intro v4 w4 hown hgrow _ hats
                    have HG4 := Lib.hid (R7.more (x := { x with t := (x.t + (l.length : Int)) }) hown)
                    have HB4 : Hid (Below w3.heap.size w3 w4) := Lib.hid ((HB2.out.alloc (by omega) _).grown hgrow (by simp; omega) fun z e => (HR2.out.lt z e).1)
                    clear hown hgrow hats
                    go_wp2
                    go_roundw
                    case rel => exact ⟨i + 1, v4, _, rfl, by go_num, by omega, Lib.hid ⟨HB4.out, HG4.out, by rw [← HD.out, hIX.out], HT.out⟩⟩
                    case measure => (simp [intOf]; try omega)
            · obtain rfl : i = c.length := by omega
              have hDD : D = putS l c := by rw [HR.out.2.2.1, List.take_length]; rfl
              obtain ⟨q, cq, ev, -⟩ := HR.out.2.1.open
              rw [HDL.out] at ev
              subst ev
              have HP : Hid (∃ pd cd, Value.slice q (l.length + c.length) cq = .slice pd (putS l c).length cd ∧ CodeAt wo pd (putS l c)) := Lib.hid (by
                have h7 := HR.out.2.1
                rw [hDD] at h7
                refine h7.code fun x hx => ?_
                rcases List.mem_append.1 hx with hx | hx
                · obtain ⟨r, hr, rfl⟩ := List.mem_map.1 hx
                  exact setI_ok (rg_sm HS.out ((HG3.out.rg r).1 hr))
                · obtain ⟨y, hy, rfl⟩ := List.mem_map.1 hx
                  obtain ⟨j, hj, e⟩ := List.mem_iff_getElem.1 hy
                  have hj' : c[j]? = some y := by rw [List.getElem?_eq_getElem hj, e]
                  obtain ⟨_, _, _, _, _, hok⟩ := hc.out j y hj'
                  exact shI_ok (by omega) hok (HR.out.2.2.2 j y hj hj'))
              obtain ⟨pd, cd, ed, hcd⟩ := HP.out
              simp only [Value.slice.injEq] at ed
              obtain ⟨rfl, -, rfl⟩ := ed
              have hlen : l.length + c.length = (putS l c).length := putS_len.symm
              have HCD : Hid (CodeAt wo q (putS l c)) := Lib.hid hcd
              have HB1 := Lib.hid HR.out.1
              have HSD := Lib.hid (putS_sm HS.out HG3.out)
              have HHI : Hid (∀ r i, Nd (putS l c) r (l.length + i) ↔ Nd c r i) := Lib.hid fun r i => nd_hi
              have HFI : Hid (∀ r, ¬ Nd (putS l c) r 0) := Lib.hid fun r => nd_first HG3.out
              clear HP hcd hDD HR
              obtain ⟨D2, hD2⟩ : ∃ D2, putS l c = D2 := ⟨_, rfl⟩
              rw [hD2] at HCD HSD HHI HFI hlen
              clear hD2 HDL D
              have hD20 : D2.length ≤ 200 := by omega
              have HLC := Lib.hid (lahead_c (cap := cap) (Lib.hid (HC3.out.stay HB1.out)) (Lib.hid (HE3.out.below HB1.out)) HS (by omega))
              rw [hlen]
              go_upto_region 25 with (go_at_call 12; (with_reducible refine HLC.out.mono ?_); rintro e5 w5 ⟨v5, rfl, ⟨pa, ca, S, rfl, ra, na⟩, hb5⟩; have HV5 := Lib.hid (And.intro ra (And.intro na hb5)); have HLD := Lib.hid (lahead_c (cap := cq) (Lib.hid (HCD.out.stay hb5)) (Lib.hid (HE3.out.below (HB1.out.trans (hb5.mono HB1.out.size)))) HSD (by omega)); clear ra na hb5)
              go_upto_region 26 with (go_at_call 12; (with_reducible refine HLD.out.mono ?_); rintro e6 w6 ⟨v6, rfl, ⟨pb, cb, T, rfl, rb, nb⟩, hb6⟩; have HV6 := Lib.hid (And.intro rb (And.intro nb hb6)); clear rb nb hb6)
              have HRA := Lib.hid (HV5.out.1.stay HV6.out.2.2)
              have HNA : Hid (∀ i, i < c.length → NRI w6 (S i) (fun r => Nd c r i)) := Lib.hid fun i hi => (HV5.out.2.1 i hi).stay HV6.out.2.2
              have HRB := Lib.hid HV6.out.1
              have HNB : Hid (∀ i, i < D2.length → NRI w6 (T i) (fun r => Nd D2 r i)) := Lib.hid HV6.out.2.1
              have h36 : Below w3.heap.size w3 w6 := HB1.out.trans ((HV5.out.2.2.trans (HV6.out.2.2.mono HV5.out.2.2.size)).mono HB1.out.size)
              have HE6 : Hid (Below W.heap.size W w6) := Lib.hid (H3.out.trans (h36.mono H3.out.size))
              clear h36 HV5 HV6 HLC HLD HCD
              go_upto_region 27 with (fail)
              go_loopw [13] (fun a13 wr => ∃ i : Nat, a13 = .int .i64 i ∧ i ≤ c.length ∧ Hid (Below w6.heap.size w6 wr)) (fun a13 _ => c.length - (intOf a13).toNat)
              case atStart => exact ⟨0, rfl, Nat.zero_le _, Lib.hid (Below.refl _ _)⟩
              case round =>
                obtain ⟨w7, rfl⟩ : ∃ wo : World, wo = wr := ⟨_, rfl⟩
                obtain ⟨i, rfl, hi, HR⟩ := hrel
                by_cases hlt : i < c.length
                · obtain ⟨s, hs⟩ : ∃ s, l.length + i = s := ⟨_, rfl⟩
                  have g2 : s < D2.length := by omega
                  have HHS : Hid (∀ r, Nd D2 r s ↔ Nd c r i) := Lib.hid fun r => by rw [← hs]; exact HHI.out r i
                  obtain ⟨g, o, rfl, hgl, i1⟩ := (HRA.out.stay HR.out) i hlt
                  obtain ⟨g', o', rfl, hgl', i2⟩ := (HRB.out.stay HR.out) s g2
                  obtain ⟨la, qa, ka, ea, ra, hla, hua, hma⟩ := nri_lv (HNA.out i hlt) fun r h => nd_pos HS.out h
                  obtain ⟨lb, qb, kb, eb, rb, hlb, hub, hmb⟩ := nri_lv (HNB.out s g2) fun r h => nd_pos HSD.out h
                  rw [ea] at i1
                  rw [eb] at i2
                  have HAB : Hid (la = lb) := Lib.hid (lv_one (fun r => (hma r).trans ((HHS.out r).symm.trans (hmb r).symm)) hua hub)
                  have HA : Hid (RV w7.drew qa la.length (lv la)) := Lib.hid ((ra.stay HR.out).stay (below_drew1 _))
                  have HB : Hid (RV w7.drew qb lb.length (lv lb)) := Lib.hid ((rb.stay HR.out).stay (below_drew1 _))
                  clear ea ra eb rb hua hub hma hmb
                  have g1 : ((l.length : Int) + (i : Int)) = (s : Int) := by omega
                  clear hs
                  go_upto_region 29 with (fail)
                  refine region_held1 (fun w' => Below w7.heap.size w7 w') (by kernel_rfl) ?_
                  show wpAnyH _ _ _ _ _ 12 _ _ _
                  refine takeH (i := 0) (v := .slice (some ⟨g, o, none⟩) c.length ca) (some 86) rfl rfl (by kernel_rfl) (by kernel_rfl) (by kernel_rfl) (Or.inl ⟨by rfl, ?_⟩) (below_drew1 _) ?_
                  · intro y1 hS1
                    go_simp
                  simp only [Act.put, List.setIfInBounds_toArray, List.set_cons_zero, List.set_cons_succ]
                  refine takeH (i := 1) (v := .int .i64 (i : Int)) (some 87) rfl rfl (by kernel_rfl) (by kernel_rfl) (by kernel_rfl) (Or.inl ⟨by rfl, ?_⟩) (below_drew1 _) ?_
                  · intro y1 hS1
                    go_simp
                  simp only [Act.put, List.setIfInBounds_toArray, List.set_cons_zero, List.set_cons_succ]
                  refine takeH (i := 2) (v := .pointer (some ⟨g, o + i, none⟩)) (some 88) rfl rfl (by kernel_rfl) (by kernel_rfl) (by kernel_rfl) (Or.inl ⟨by rfl, ?_⟩) (below_drew1 _) ?_
                  · intro y1 hS1
                    go_simp
                  simp only [Act.put, List.setIfInBounds_toArray, List.set_cons_zero, List.set_cons_succ]
                  refine takeH (i := 3) (v := .slice qa la.length ka) (some 89) rfl rfl (by kernel_rfl) (by kernel_rfl) (by kernel_rfl) (Or.inl ⟨by rfl, ?_⟩) (below_drew1 _) ?_
                  · intro y1 hS1
                    have i1 := (hS1.cell (p := ⟨g, _, none⟩) hgl).trans i1
                    go_simp
                  simp only [Act.put, List.setIfInBounds_toArray, List.set_cons_zero, List.set_cons_succ]
                  refine takeH (i := 4) (v := .slice (some ⟨g', o', none⟩) D2.length cb) (some 90) rfl rfl (by kernel_rfl) (by kernel_rfl) (by kernel_rfl) (Or.inl ⟨by rfl, ?_⟩) (below_drew1 _) ?_
                  · intro y1 hS1
                    go_simp
                  simp only [Act.put, List.setIfInBounds_toArray, List.set_cons_zero, List.set_cons_succ]
                  refine takeH (i := 5) (v := .int .i64 (l.length : Int)) (some 91) rfl rfl (by kernel_rfl) (by kernel_rfl) (by kernel_rfl) (Or.inl ⟨by rfl, ?_⟩) (below_drew1 _) ?_
                  · intro y1 hS1
                    go_simp
                  simp only [Act.put, List.setIfInBounds_toArray, List.set_cons_zero, List.set_cons_succ]
                  refine takeH (i := 6) (v := .int .i64 (i : Int)) (some 92) rfl rfl (by kernel_rfl) (by kernel_rfl) (by kernel_rfl) (Or.inl ⟨by rfl, ?_⟩) (below_drew1 _) ?_
                  · intro y1 hS1
                    go_simp
                  simp only [Act.put, List.setIfInBounds_toArray, List.set_cons_zero, List.set_cons_succ]
                  refine takeH (i := 7) (v := .int .i64 (s : Int)) (some 93) rfl rfl (by kernel_rfl) (by kernel_rfl) (by kernel_rfl) (Or.inl ⟨by rfl, ?_⟩) (below_drew1 _) ?_
                  · intro y1 hS1
                    go_simp
                    rw [IntKind.wrap_i64]
                    omega
                  simp only [Act.put, List.setIfInBounds_toArray, List.set_cons_zero, List.set_cons_succ]
                  refine takeH (i := 8) (v := .pointer (some ⟨g', o' + s, none⟩)) (some 94) rfl rfl (by kernel_rfl) (by kernel_rfl) (by kernel_rfl) (Or.inl ⟨by rfl, ?_⟩) (below_drew1 _) ?_
                  · intro y1 hS1
                    go_simp
                  simp only [Act.put, List.setIfInBounds_toArray, List.set_cons_zero, List.set_cons_succ]
                  refine takeH (i := 9) (v := .slice qb lb.length kb) (some 95) rfl rfl (by kernel_rfl) (by kernel_rfl) (by kernel_rfl) (Or.inl ⟨by rfl, ?_⟩) (below_drew1 _) ?_
                  · intro y1 hS1
                    have i2 := (hS1.cell (p := ⟨g', _, none⟩) hgl').trans i2
                    go_simp
                  simp only [Act.put, List.setIfInBounds_toArray, List.set_cons_zero, List.set_cons_succ]
                  refine wpAnyH_all (rs := [10]) (by kernel_rfl) (by simp) ?_
                  intro i8 hi8
                  obtain rfl : i8 = 10 := by simpa using hi8
                  refine wpOp_call (some 96) rfl rfl (by rfl) (f := 23) (args := #[.slice qa la.length ka, .slice qb lb.length kb]) (by go_simp) (ints_any HA HB hla) ?_
                  rintro e8 w8 ⟨b8, rfl, h8, hb8⟩
                  obtain rfl : b8 = true := h8.2 HAB.out
                  have H8 : Hid (Below w7.heap.size w7 w8) := Lib.hid ((below_drew1 _).trans hb8)
                  clear h8 hb8
                  refine ⟨_, rfl, H8.out, ?_⟩
                  simp only [Act.put, List.setIfInBounds_toArray, List.set_cons_zero, List.set_cons_succ]
                  refine takeH (i := 11) (v := .bool true) (some 14) rfl rfl (by kernel_rfl) (by kernel_rfl) (by kernel_rfl) (Or.inl ⟨by rfl, ?_⟩) H8.out ?_
                  · intro y1 hS1
                    go_simp
                  simp only [Act.put, List.setIfInBounds_toArray, List.set_cons_zero, List.set_cons_succ]
                  refine wpAnyH_done (by kernel_rfl) ?_ _
                  refine ⟨rfl, ?_⟩
                  go_wp2
                  go_roundw
                  case rel => exact ⟨i + 1, by go_num, by omega, Lib.hid (below_like (HR.out.trans (H8.out.mono HR.out.size)) rfl rfl rfl rfl)⟩
                  case measure => (simp [intOf]; try omega)
                · obtain rfl : i = c.length := by omega
                  have HE7 : Hid (Below W.heap.size W w7) := Lib.hid (HE6.out.trans (HR.out.mono HE6.out.size))
                  obtain ⟨N, hN⟩ : ∃ N, D2.length = N := ⟨_, rfl⟩
                  rw [hN] at HRB HNB ⊢
                  by_cases hN0 : N = 0
                  · have he0 : ((N : Int) == 0) = true := by simp [hN0]
                    go_wp2
                    go_ret
                    exact ⟨rfl, HE7.out⟩
                  · have he0 : ((N : Int) == 0) = false := by simp; omega
                    obtain ⟨g', o', rfl, -, i2⟩ := (HRB.out.stay HR.out) 0 (by omega)
                    obtain ⟨lb, ⟨plb, cb, eb, -⟩, -, -, hmb⟩ := HNB.out 0 (by omega)
                    obtain rfl := row_nil hmb HFI.out
                    rw [eb] at i2
                    simp only [List.length_nil, Nat.add_zero] at i2
                    clear eb hmb
                    go_wp2
                    go_ret
                    exact ⟨rfl, HE7.out⟩
end Go.Proofs.YthodpkcjdbkdnaaDoor
